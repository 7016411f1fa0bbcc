import PyProof.Rows.All
import Wide.All
import OpenK.AllK
import Wide.FinOn
import KE.KEqNest
import HandS.ForMost
import HandS.ForExc
import HandS.ExcInit
import HandS.ExcField
import HandS.IsInst
import HandS.TryMany
import HandS.RaiseMore
import HandS.Words
import PyProof.NeData
import KE.KOpsOwn
import HandS.Property
import HandS.OwnEq
import PyProof.NeKinds
import PyProof.StrReplace2
import PyProof.AutoIntOps
import HandS.Lambda
import HandS.TupAny
import HandS.Deep
import HandS.Style
import HandS.Conv
import HandS.CallSlots
import PyProof.InstEq
import KE.KOwnIter
import HandS.IterNext
import HandS.IterVal
import KE.GoesMore
import KE.KDictZip
import KE.KItemsList
import HandS.ListItems
import KE.GoesEnum
import HandS.Defaults
import KE.KCallOwn
import HandS.Dict
import HandS.Small
import HandS.Star
import PyProof.CallFns
import PyProof.IsRules
import HandS.Text
import HandS.Sort
import HandS.ExcValue
import HandS.ExcIs
import KE.KExcIs
import PyProof.ReprReads
import PyProof.StrHeap
import HandS.FStr
import HandS.Replace
import HandS.EndTab
import HandS.More
import KE.DataCmp
import PySem.Challenge.RW_threecounts_k07_texts_ordered
set_option Elab.async false
set_option linter.all false
set_option maxRecDepth 100000
set_option maxHeartbeats 8000000
/-! # K4Rules -/
namespace Tc
open PySem PySem.Spec PyProof.Rows L2

/-! ## data that may hold an empty dict, and its repr -/
mutual
inductive Dq (K : PySem.W.Frag) (H : Hp) : V → PyData → Prop
  | no : Dq K H .non .none
  | bo (b : Bool) : Dq K H (.bl b) (.bool b)
  | it (i : Int) : Dq K H (.int i) (.int i)
  | tx (x : Str) : Dq K H (.str x) (.str x)
  | li {a : Addr} {xs : List V} {ds : List PyData} (h : SqL K H a xs) (g : DqA K H xs ds) : Dq K H (.ref a) (.list ds)
  | tu {a : Addr} {xs : List V} {ds : List PyData} (h : SqT K H a xs) (g : DqA K H xs ds) : Dq K H (.ref a) (.tuple ds)
  | em {a : Addr} (h : H a = some (.dK [])) : Dq K H (.ref a) (.dict [])
inductive DqA (K : PySem.W.Frag) (H : Hp) : List V → List PyData → Prop
  | no : DqA K H [] []
  | co {v : V} {vs : List V} {d : PyData} {ds : List PyData} (h : Dq K H v d) (g : DqA K H vs ds) : DqA K H (v :: vs) (d :: ds)
end
section
variable {X : Cx} {pins : List (Addr × Obj)} {σ : L2.St} {H : Hp} {s : Shared}
/-- what stands at sys.modules holds a dict's entries -/
def SysD (h : Heap) : Prop := ∃ mm, h.Ns sysModules mm
mutual
theorem Dq.reads (I : Inv X pins σ H s) (hs : SysD s.heap) : ∀ (d : PyData) (v : V) (u : Value), Dq X.K H v d → RelV v u → ∃ as, Reads s.heap u d as ∧ sysModules ∉ as
  | .none, _, _, h, r => by
    cases h
    cases r
    exact ⟨_, .none, by simp⟩
  | .bool b, _, _, h, r => by
    cases h
    cases r
    exact ⟨_, .bool b, by simp⟩
  | .int i, _, _, h, r => by
    cases h
    obtain ⟨t, rfl⟩ := r
    exact ⟨_, .int i t, by simp⟩
  | .str x, _, _, h, r => by
    cases h
    obtain ⟨t, rfl⟩ := r
    exact ⟨_, .str x t, by simp⟩
  | .list ds, _, _, h, r => by
    cases h with
    | li q qa =>
      cases r
      obtain ⟨zs, rz, ⟨o, n, ho, hc, _, hd⟩, _⟩ := I.list q
      obtain ⟨as, ra, na⟩ := DqA.reads I hs ds _ zs qa rz
      refine ⟨_, .list ho hc hd ra, ?_⟩
      intro m
      rcases List.mem_cons.mp m with e | e
      · obtain ⟨mm, o2, es2, ep2, h2, d2, _⟩ := hs
        rw [e, ho] at h2
        obtain rfl := Option.some.inj h2
        rw [hd] at d2
        cases d2
      · exact na e
  | .tuple ds, _, _, h, r => by
    cases h with
    | tu q qa =>
      cases r
      obtain ⟨zs, rz, ⟨o, ho, hc, n, hd⟩, _⟩ := I.tuple q
      obtain ⟨as, ra, na⟩ := DqA.reads I hs ds _ zs qa rz
      exact ⟨_, .tuple ho hc hd ra, na⟩
  | .dict ds, _, _, h, r => by
    cases h with
    | em q =>
      cases r
      obtain ⟨_, hn, vs, rel, o, es, ep, ho, hx, hd, _, hp, _⟩ := I.hok _ _ q
      cases rel
      have ee : es.toList = [] := by
        cases hl : es.toList with
        | nil => rfl
        | cons z zs =>
          rw [hl] at hp
          cases hp
      refine ⟨_, .dict (kvs := []) ho hx.1 hd (by rw [ee]; exact .nil) (by rw [ee]; exact .nil), ?_⟩
      intro m
      rcases List.mem_cons.mp m with e | e
      · rw [← e] at hn
        exact absurd hn (by decide)
      · simp at e
theorem DqA.reads (I : Inv X pins σ H s) (hs : SysD s.heap) : ∀ (ds : List PyData) (vs : List V) (us : List Value), DqA X.K H vs ds → Vals vs us → ∃ as, ReadsAll s.heap us ds as ∧ sysModules ∉ as
  | [], _, _, h, r => by
    cases h
    cases r
    exact ⟨_, .nil, by simp⟩
  | d :: ds, _, _, h, r => by
    cases h with
    | co h1 h2 =>
      cases r with
      | cons r1 r2 =>
        obtain ⟨as, qa, na⟩ := Dq.reads I hs d _ _ h1 r1
        obtain ⟨bs, qb, nb⟩ := DqA.reads I hs ds _ _ h2 r2
        refine ⟨_, .cons qa qb, fun m => ?_⟩
        rcases List.mem_append.mp m with e | e
        · exact na e
        · exact nb e
end
/-- repr(x), x a list of such data, or an int -/
def rRepr (K : PySem.W.Frag) : List V → Hp → VK → Prop := fun xs H Q =>
  (∃ i, xs = [.int i] ∧ i.natAbs.log2 < 1920 ∧ Q (.str (toString i)) H) ∨
  ∃ (a : Addr) (d : PyData), xs = [.ref a] ∧ Dq K H (.ref a) d ∧ d.showable = true ∧ d.depth ≤ 8 ∧ d.shown.length ≤ sizeLine ∧ Q (.str d.shown) H
theorem call_reprQ (hg : X.A.guards = some []) (hu : X.A.units + 64 < cLine) (hS : SysD X.base) : CallR X (.builtin "repr") (rRepr X.K) := by
  intro pins s σ H xs us Q I r h
  rcases h with ⟨i, rfl, hz, q⟩ | ⟨a, d, rfl, hd, sh, dp, sz, q⟩
  · obtain ⟨u, rfl, t, rfl⟩ := vals1 r
    exact PySem.P.repr_of_int hz ⟨.str _, H, I.tok _, ⟨_, rfl⟩, q⟩
  · obtain ⟨u, rfl, ru⟩ := vals1 r
    obtain ⟨as, rd, ns⟩ := Dq.reads I (let ⟨mm, z⟩ := hS; ⟨mm, z.keeps I.bk⟩) d _ _ hd ru
    obtain rfl : u = Value.ref a := ru
    exact repr_of_reads' rd sh (fun _ => ns) hg (by omega) (fun _ _ e => e) (fun h' u tk kp => ⟨.str _, H, I.kept kp, ⟨_, rfl⟩, q⟩) sz
end
end Tc

/-! # K4Try -/
namespace Tc
open PySem PySem.Spec PyProof.Rows L2
abbrev Suite := Addr → Value → Option Addr → TS
section
variable {X : Cx} {body : List Stmt} {h₀ : ExceptHandler} {hs : List ExceptHandler} {l : List (Value × Nat × Suite)} {pos : Pos} {tb : WX → TS} {Wz : WX}
end
end Tc

/-! # K4More -/
namespace Tc
open PySem PySem.Spec PyProof.Rows L2
section
variable {X : Cx}
end
/-! ## a written dict with whole numbers as keys -/
section
variable {X : Cx}
end
/-! ## the law's own call, where the guards are known -/
/-- a def of the text at one call -/
theorem fn_here {CX : CXT} {P : Program} {w : World} {K : PySem.W.Frag} {mg : Str → Option Value} {base : Heap} {k : Nat} {x qual : Str} {st : Stmt} {f : Addr} {fd : FuncData} {N ps : List Str}
    (F : Fun K x qual st f fd) (S : FnScope N ps (defScope st)) {A : Around} {outer : List Env} {s : Shared} {H : Hp} {us : List Value} {vs : List V} {Q : VK} {E : XK} {args : Args}
    (room : Room (k + 1) A) (e0 : Env0 P w K mg base A outer s H) (bd : BindsTo s fd args (ps.zip us)) (rv : Vals vs us) (hl : vs.length = ps.length)
    (go : ∀ cdv, Room k (A.deeper (envOfC qual (defScope st) s.heap.objs.size f cdv)) →
      ∃ t, PSs (cxOf CX P w K mg base N qual (defScope st) f cdv A outer s H E) (defBody st) t ∧ t { nx := fun _ H' => Q .non H', rt := Q } (start N vs) H) :
    codeAny (model P w) A (.call (.ref f) args) (CR CX outer P w H s Q E) s := by
  obtain ⟨oc, od, kV, doc, pm, an, cdv, ct, osl, rfl, lk, code⟩ := F.ex
  have KH : K.In s.heap := e0.mod.kin.keeps fun b o e => (e0.bs b o e).1
  have noL : s.heap.NoLimit := e0.mod.nolimit.keeps fun b o e => (e0.bs b o e).1
  have kinds : ∀ y ∈ ps.zip us, (defScope st).names.lookup y.1 = some .local ∨ ((defScope st).names.lookup y.1 = some .cell ∧ ((cellsFrom (s.heap.objs.size + 1) (defScope st).names []).lookup y.1).isSome = true) := by
    rintro ⟨n, v⟩ hy
    rcases S.par n (List.of_mem_zip hy).1 with q | q
    · exact .inl q
    · exact .inr ⟨q, PySem.W.cellsFrom_some _ _ _ (.inl q)⟩
  refine codeAny_call_function room.depth (KH _ _ lk) rfl S.co S.gen rfl (PySem.W.codeRec_of KH code) (bd _ _ _ _ ?_)
  refine wpAny_newFunctionEnv_cells S.kind kinds ?_
  intro env he s1 ic
  subst he
  refine ⟨noL.keeps ic.toInCall.keep, codeAny_func ?_⟩
  obtain ⟨t, ht, hq⟩ := go cdv (room.deeper _)
  have I := inv_start (CX := CX) (N := N) (qual := qual) (f := f) (cd := cdv) (E := E) S room.hd e0 hl rv ic
  refine wpAny_mono (ht.run [] s1 (start N vs) H _ I hq) (fun fl s' done => ?_) fun _ _ z => z
  cases fl with
  | ret u =>
    obtain ⟨v, σ', H', J, r, q⟩ := done
    exact ⟨v, H', J.os, J.bare, J.base, J.hok, r, q⟩
  | next =>
    obtain ⟨σ', H', J, q⟩ := done
    exact ⟨V.non, H', J.os, J.bare, J.base, J.hok, rfl, q⟩
  | brk =>
    obtain ⟨_, _, _, q⟩ := done
    exact q.elim
  | cont =>
    obtain ⟨_, _, _, q⟩ := done
    exact q.elim
/-- what the law's call wants: run over the heap that the top left, with the guards that stand there -/
theorem call_here {P : Program} {w : World} {K : PySem.W.Frag} {mg mb : Str → Option Value} {fa a : Addr} {s₁ : Shared} {us : List Value} {ns : List Int}
    (KH : K.In s₁.heap) (hns : s₁.heap.Ns mainGlobals mg) (hb : s₁.heap.Ns builtinsNs mb) (boot : ∀ x : Str, x ≠ "__name__" → mb x = bootBuiltins x) (noL : s₁.heap.NoLimit) (sysm : SysD s₁.heap) (hg : s₁.gens = #[])
    (ha : s₁.heap.get? a = some { cls := .type "list", data := .seq us.toArray }) (hi : IntsAre us ns) (hl : ns.length ≤ sizeLine)
    (run : ∀ (base : Heap) (H : Hp), K.In base → base.Ns mainGlobals mg → Only H → SqL K H a (ns.map V.int) → Env0 P w K mg base callerA [] s₁ H → SysD base →
      codeAny (model P w) callerA (.call (.ref fa) ⟨[.ref a], []⟩) (CR CX0 [] P w H s₁ (fun v _ => v = .bl true) fun _ _ _ => False) s₁) :
    codeAny (model P w) callerA (.call (.ref fa) ⟨[.ref a], []⟩) (fun r s' => r = .ok (.ret (.bool true)) ∧ OldK s₁.heap s'.heap ∧ s'.os = s₁.os ∧ AllBare s'.gens) s₁ := by
  have rs := vals_ints hi
  have ln := hi.length
  have from_ : ∀ H : Hp, Only H → SqL K H a (ns.map V.int) → HOk P w H s₁.heap → (∀ b, H b ≠ none → b = a) → (H a ≠ none → K.lookup a = none) →
      codeAny (model P w) callerA (.call (.ref fa) ⟨[.ref a], []⟩) (fun r s' => r = .ok (.ret (.bool true)) ∧ OldK s₁.heap s'.heap ∧ s'.os = s₁.os ∧ AllBare s'.gens) s₁ := by
    intro H hO hS hok only notK
    have hid : ∀ {b : Addr} {o : Obj}, s₁.heap.get? b = some o → H b = none → (hidT s₁.heap H).get? b = some o := fun e n => hidT_get e n
    have dicts : ∀ {b : Addr} {o : Obj} {es : Array DictEntry} {ep : Nat}, s₁.heap.get? b = some o → o.data = .dict es ep → H b = none := by
      intro b o es ep e dd
      cases q : H b with
      | none => rfl
      | some z =>
        have eb : b = a := only b (by rw [q]; simp)
        subst eb
        rw [ha] at e
        cases e
        cases dd
    have keepNs : ∀ {b : Addr} {m : Str → Option Value}, s₁.heap.Ns b m → (hidT s₁.heap H).Ns b m := by
      rintro b m ⟨o, es, ep, e, dd, r⟩
      exact ⟨o, es, ep, hid e (dicts e dd), dd, r⟩
    have KB : K.In (hidT s₁.heap H) := by
      intro b o e
      refine hid (KH b o e) ?_
      cases q : H b with
      | none => rfl
      | some z =>
        have eb : b = a := only b (by rw [q]; simp)
        subst eb
        rw [notK (by rw [q]; simp)] at e
        cases e
    obtain ⟨mc, m1, m2⟩ := id noL
    have mod : Mod K mg (hidT s₁.heap H) := ⟨KB, keepNs hns, ⟨mb, keepNs hb, boot⟩, ⟨mc, keepNs m1, m2⟩⟩
    have e0 : Env0 P w K mg (hidT s₁.heap H) callerA [] s₁ H :=
      ⟨rfl, mod, fun b o e => of_hidT e, Nat.le_of_eq (hidT_size _ _), trivial, fun b z => absurd (show b ∈ ([] : List Addr) from z) (by simp), hok, .of_eq hg⟩
    refine codeAny_mono (run _ H KB (keepNs hns) hO hS e0 (let ⟨mm, z⟩ := sysm; ⟨mm, keepNs z⟩)) fun r s' done => ?_
    cases r with
    | error e => exact done.elim
    | ok fl =>
      cases fl with
      | next => exact done.elim
      | brk => exact done.elim
      | cont => exact done.elim
      | ret u =>
        obtain ⟨v, H', os, bare, un, hok', r', q⟩ := done
        have q' : v = .bl true := q
        subst q'
        obtain rfl : u = Value.bool true := r'
        refine ⟨rfl, OldK.of_keep fun b o e => ?_, os, bare⟩
        rcases hO b with z | ⟨ob, xs, z⟩
        · exact un.keep b o e z (by intro y; exact absurd (show b ∈ ([] : List Addr) from y) (by simp)) (by simp)
        · obtain ⟨e1, _⟩ := hok b _ z
          obtain ⟨e2, _⟩ := hok' b _ (un.frzs b ob _ z)
          rw [e] at e1
          cases e1
          exact e2
  cases hk : K.lookup a with
  | some o =>
    have e := KH a o hk
    rw [ha] at e
    cases e
    refine from_ (fun _ => none) (fun _ => .inl rfl) (.inr ⟨_, us.toArray, _, hk, rfl, rfl, rfl, ?_, ?_⟩) ?_ (fun b z => absurd rfl z) fun z => absurd rfl z
    · rw [List.size_toArray, ln]
      exact hl
    · simpa using rs
    · intro b z y
      cases (show (none : Option HO) = some z from y)
  | none =>
    have at_ : ∀ b : Addr, b = a → (fun c : Addr => if c = a then some (HO.frz { cls := .type "list", data := .seq us.toArray } (.lst (ns.map V.int))) else none) b = some (.frz { cls := .type "list", data := .seq us.toArray } (.lst (ns.map V.int))) := fun b e => if_pos e
    have off : ∀ b : Addr, b ≠ a → (fun c : Addr => if c = a then some (HO.frz { cls := .type "list", data := .seq us.toArray } (.lst (ns.map V.int))) else none) b = none := fun b e => if_neg e
    refine from_ (fun c : Addr => if c = a then some (HO.frz { cls := .type "list", data := .seq us.toArray } (.lst (ns.map V.int))) else none) (fun b => ?_) (.inl (.inr ⟨{ cls := .type "list", data := .seq us.toArray }, at_ a rfl⟩)) (fun b z y => ?_) (fun b y => ?_) fun _ => hk
    · by_cases e : b = a
      · exact .inr ⟨_, _, at_ b e⟩
      · exact .inl (off b e)
    · by_cases e : b = a
      · cases (at_ b e).symm.trans y
        subst e
        exact ⟨ha, by rw [List.length_map]; exact hl, us, _, rs, ha⟩
      · cases (off b e).symm.trans y
    · by_cases e : b = a
      · exact e
      · exact absurd (off b e) y
end Tc

/-! # Own1 -/
namespace Tc
open PySem PySem.Spec PyProof.Rows L2
/-! ## a promise of a def that may ask for repr: its callers know the guards -/
structure FnG (P : Program) (w : World) (K : PySem.W.Frag) (mg : Str → Option Value) (base : Heap) (CX : CXT) (k : Nat) (f : Addr) (fd : FuncData) (ps : List Str) (sp : Sp) : Prop where
  len : ∀ vs H Q E, sp vs H Q E → vs.length = ps.length
  run : ∀ (A : Around) (outer : List Env) (s : Shared) (H : Hp) (args : Args) (us : List Value) (vs : List V) (Q : VK) (E : XK), A.guards = some [] → Room k A → Env0 P w K mg base A outer s H →
    BindsTo s fd args (ps.zip us) → Vals vs us → sp vs H Q E → codeAny (model P w) A (.call (.ref f) args) (CR CX outer P w H s Q E) s
section
variable {P : Program} {w : World} {K : PySem.W.Frag} {mg : Str → Option Value} {base : Heap} {CX : CXT} {k : Nat} {f : Addr} {fd : FuncData} {ps : List Str} {sp : Sp}
theorem FnG.of (F : FnOk P w K mg base CX k f fd ps sp) : FnG P w K mg base CX k f fd ps sp := ⟨F.len, fun A outer s H args us vs Q E _ => F.run A outer s H args us vs Q E⟩
theorem okG {x qual : Str} {st : Stmt} {N : List Str} (F : Fun K x qual st f fd) (S : FnScope N ps (defScope st)) (len : ∀ vs H Q E, sp vs H Q E → vs.length = ps.length)
    (body : ∀ (cdv : Value) (A : Around) (outer : List Env) (s : Shared) (H : Hp) (vs : List V) (Q : VK) (E : XK), A.guards = some [] → Room k (A.deeper (envOfC qual (defScope st) s.heap.objs.size f cdv)) → sp vs H Q E →
      ∃ t, PSs (cxOf CX P w K mg base N qual (defScope st) f cdv A outer s H E) (defBody st) t ∧ t { nx := fun _ H' => Q .non H', rt := Q } (start N vs) H) :
    FnG P w K mg base CX (k + 1) f fd ps sp :=
  ⟨len, fun A outer s H args us vs Q E hg hr e0 bd rv h => fn_here F S hr e0 bd rv (len _ _ _ _ h) fun cdv room => body cdv A outer s H vs Q E hg room h⟩
end
/-! ## a callee that runs below the body, its refusal wished for at the slots -/
section
variable {X : Cx} {CX : CXT} {k : Nat} {f C : Addr} {fd : FuncData} {ps : List Str} {sp : Sp} {x m : Str} {p pos apos : Pos} {e o a b : Expr} {es : List Expr} {ta tb : TE} {t : TA}
/-- how an answer of a callee is taken -/
theorem ans_of {pins : List (Addr × Obj)} {σ : L2.St} {H : Hp} {s : Shared} {Q : VK} {E : XK} (hx : PassesAt CX X σ E) (I : Inv X pins σ H s) {r : Result} {s' : Shared} (h : CR CX X.stack X.prog X.w H s Q E r s') :
    wants (EP X pins σ Q) X.xe r s' := by
  cases r with
  | error er => exact hx pins H s er s' I h
  | ok fl =>
    cases fl with
    | ret u => exact I.after h
    | next => exact h.elim
    | brk => exact h.elim
    | cont => exact h.elim
theorem env_at {pins : List (Addr × Obj)} {σ : L2.St} {H : Hp} {s : Shared} {A : Around} (hA : A.frames = X.A.frames) (I : Inv X pins σ H s) : Env0 X.prog X.w X.K X.mg X.base A X.stack s H := by
  have e := I.env0
  exact ⟨hA.trans e.frames, e.mod, e.bs, e.bsz, e.funs, e.frf, e.hok, e.bare⟩
theorem run_at {pins : List (Addr × Obj)} {σ : L2.St} {H : Hp} {s : Shared} {Q : VK} {E : XK} {A : Around} {us : List Value} {vs : List V} (hA : A.frames = X.A.frames) (hr : Room k A) (F : FnOk X.prog X.w X.K X.mg X.base CX k f fd ps sp)
    (hb : Binds X.K fd ps []) (hx : PassesAt CX X σ E) (I : Inv X pins σ H s) (r : Vals vs us) (h : sp vs H Q E) : wpAny (model X.prog X.w) A (call (.ref f) us) (EP X pins σ Q) X.xe s := by
  have hl : us.length = ps.length := by rw [← r.length]; exact F.len _ _ _ _ h
  have bd := hb s us I.kIn (by rw [List.append_nil]; exact hl)
  rw [List.append_nil] at bd
  exact wpAny_call (codeAny_mono (F.run A X.stack s H ⟨us, []⟩ us vs Q E hr (env_at hA I) bd r h) fun r s' hq => ans_of hx I hq)
theorem run_atG {pins : List (Addr × Obj)} {σ : L2.St} {H : Hp} {s : Shared} {Q : VK} {E : XK} {A : Around} {us : List Value} {vs : List V} (hA : A.frames = X.A.frames) (hg : A.guards = some []) (hr : Room k A) (F : FnG X.prog X.w X.K X.mg X.base CX k f fd ps sp)
    (hb : Binds X.K fd ps []) (hx : PassesAt CX X σ E) (I : Inv X pins σ H s) (r : Vals vs us) (h : sp vs H Q E) : wpAny (model X.prog X.w) A (call (.ref f) us) (EP X pins σ Q) X.xe s := by
  have hl : us.length = ps.length := by rw [← r.length]; exact F.len _ _ _ _ h
  have bd := hb s us I.kIn (by rw [List.append_nil]; exact hl)
  rw [List.append_nil] at bd
  exact wpAny_call (codeAny_mono (F.run A X.stack s H ⟨us, []⟩ us vs Q E hg hr (env_at hA I) bd r h) fun r s' hq => ans_of hx I hq)
/-- f(e, ..), f a def that may ask for repr -/
theorem pe_callG {E : L2.St → XK} (F : FnG X.prog X.w X.K X.mg X.base CX k f fd ps sp) (hgd : X.A.guards = some []) (hr : Room k X.A) (hg : Gl X x) (hm : X.mg x = some (.ref f)) (hk : PySem.W.keepIn X.K (.ref f) = true) (hb : Binds X.K fd ps []) (hx : ∀ σ, PassesAt CX X σ (E σ))
    (ha : PA X (e :: es) t) (hdb : (x == ("__debug__" : Str)) = false := by decide) (he : starEach (e :: es) X.env = (false, eval e X.env) :: starEach es X.env := by rfl) (hpl : (backTo pos (starEach es X.env)).any (·.1) = false := by rfl) :
    PE X (.Call (.Name x p) (e :: es) [] pos) (tCallS sp E t) := by
  refine ⟨fun pins s σ H Q I h => ?_⟩
  refine wpAny_Call_Name_kw (ld_glob I hg hm ?_ hdb)
  refine PySem.W.callWith_K (h₀ := X.base) I.ok.mod.kin hk (thn (ha.run pos pins s σ H _ I h) fun us s1 ⟨vs, H1, I1, r, q⟩ => ⟨I1.kIn, ?_⟩) he hpl
  exact run_atG rfl hgd hr F hb (hx σ) I1 r q
theorem passLS {σ : L2.St} : PassesAt (L2.CX X.prog X.w) X σ E0 := fun _ H s e s' I h => passL [] σ H s e s' (I.pins_of fun _ z => by cases z) h
/-! ### an own class's len, item, comparison, membership -/
/-- the class has the method, a def of the text -/
structure Spc (K : PySem.W.Frag) (C : Addr) (m : Str) (f : Addr) : Prop where
  at_ : PySem.W.findIn K (.ref C) m = some (some (.ref f))
  fn : PySem.W.isFn K (.ref f) = true
theorem inst_at {pins : List (Addr × Obj)} {σ : L2.St} {H : Hp} {s : Shared} {p dx : Addr} {fs : List (Str × V)} (I : Inv X pins σ H s) (h : H p = some (.ins C dx fs)) : ∃ od, PySem.W.InstAt s.heap p (PySem.W.instObj C dx) C (some od) := by
  obtain ⟨mA, O, _⟩ := ins_get I.hok h
  obtain ⟨od, J, _⟩ := O.look
  exact ⟨od, J⟩
/-- C(e, ..), its __init__ may refuse -/
def tMakeS (C : Addr) (sp : Sp) (E : L2.St → XK) (t : TA) : TE := fun σ H Q => t σ H fun vs H1 => ∀ x dx, H1 x = none → H1 dx = none → dx ≠ x →
  sp (.ref x :: vs) (upd (upd H1 dx (.own x)) x (.ins C dx [])) (fun v H2 => v = .non ∧ Q (.ref x) H2) (E σ)
theorem pe_makeS {E : L2.St → XK} (M : Mk X.K C f) (F : FnOk X.prog X.w X.K X.mg X.base CX k f fd ps sp) (hr : Room (k + 1) X.A) (hg : Gl X x) (hm : X.mg x = some (.ref C)) (hb : Binds X.K fd ps []) (hx : ∀ σ, PassesAt CX X σ (E σ))
    (ha : PA X (e :: es) t) (hdb : (x == ("__debug__" : Str)) = false := by decide) (he : starEach (e :: es) X.env = (false, eval e X.env) :: starEach es X.env := by rfl) (hpl : (backTo pos (starEach es X.env)).any (·.1) = false := by rfl) :
    PE X (.Call (.Name x p) (e :: es) [] pos) (tMakeS C sp E t) := by
  refine ⟨fun pins s σ H Q I h => ?_⟩
  refine wpAny_Call_Name_kw (ld_glob I hg hm ?_ hdb)
  refine PySem.W.callWith_K (h₀ := X.base) I.ok.mod.kin M.kp (thn (ha.run pos pins s σ H _ I h) fun us s1 ⟨vs, H1, I1, r, q⟩ => ⟨I1.kIn, ?_⟩) he hpl
  show wpAny _ _ (call (.ref C) us) _ _ _
  have z := q (s1.heap.objs.size + 1) s1.heap.objs.size (I1.hok.fresh (Nat.le_succ _)) (I1.hok.fresh (Nat.le_refl _)) (Nat.ne_of_lt (Nat.lt_succ_self _))
  have I2 := Inv.made (C := C) I1
  have r2 : Vals (V.ref (s1.heap.objs.size + 1) :: vs) (Value.ref (s1.heap.objs.size + 1) :: us) := .cons rfl r
  have hl : (Value.ref (s1.heap.objs.size + 1) :: us).length = ps.length := by
    rw [← r2.length]
    exact F.len _ _ _ _ z
  have bd := hb _ (Value.ref (s1.heap.objs.size + 1) :: us) I2.kIn (by rw [List.append_nil]; exact hl)
  rw [List.append_nil] at bd
  refine wpAny_call (make_map (f := f) I1.kIn M.makes M.init (beq_iff_eq.mp M.fn) (codeAny_mono (F.run _ X.stack _ _ ⟨Value.ref (s1.heap.objs.size + 1) :: us, []⟩ (Value.ref (s1.heap.objs.size + 1) :: us) _ _ (E σ) (hr.make C us [])
    (I2.env0.make C us []) bd r2 z) fun r s' hq => ?_))
  cases r with
  | error er => exact hx σ pins _ _ er s' I2 hq
  | ok fl =>
    cases fl with
    | ret u =>
      obtain ⟨v, H', I3, rv, ev, q3⟩ := I2.after hq
      subst ev
      exact ⟨rv, ⟨V.ref (s1.heap.objs.size + 1), H', I3, rfl, q3⟩⟩
    | next => exact hq.elim
    | brk => exact hq.elim
    | cont => exact hq.elim
/-- o.m(e, ..), m may refuse -/
def tMethS (C : Addr) (m : Str) (sp : Sp) (E : L2.St → XK) (ta : TE) (t : TA) : TE := fun σ H Q => ta σ H fun x H1 => ∃ (p dx : Addr) (fs : List (Str × V)), x = .ref p ∧ H1 p = some (.ins C dx fs) ∧ fs.lookup m = none ∧
  t σ H1 fun vs H2 => sp (x :: vs) H2 Q (E σ)
/-! ### == and the like, the left one an object of the class -/
/-- what an object's type is seen to be -/
inductive Tys (K : PySem.W.Frag) (H : Hp) : V → Value → Prop
  | non : Tys K H .non (.type "NoneType")
  | bl (b : Bool) : Tys K H (.bl b) (.type "bool")
  | int (i : Int) : Tys K H (.int i) (.type "int")
  | str (z : Str) : Tys K H (.str z) (.type "str")
  | lst {q : Addr} {xs : List V} (h : H q = some (.lst xs)) : Tys K H (.ref q) (.type "list")
  | tup {q : Addr} {xs : List V} (h : H q = some (.tup xs)) : Tys K H (.ref q) (.type "tuple")
  | dct {q : Addr} {kvs : List (Key × V)} (h : H q = some (.dK kvs)) : Tys K H (.ref q) (.type "dict")
  | ins {q D dx : Addr} {fs : List (Str × V)} (h : H q = some (.ins D dx fs)) : Tys K H (.ref q) (.ref D)
theorem Tys.looks {pins : List (Addr × Obj)} {σ : L2.St} {H : Hp} {s : Shared} {y : V} {u t : Value} (I : Inv X pins σ H s) (r : RelV y u) (h : Tys X.K H y t) : PySem.W.Looks (model X.prog X.w) s.heap (typeOf u) t := by
  cases h with
  | non =>
    obtain rfl : u = Value.none := r
    exact PySem.W.Looks.of_pure rfl
  | bl b =>
    obtain rfl : u = Value.bool b := r
    exact PySem.W.Looks.of_pure rfl
  | int i =>
    obtain ⟨tk, rfl⟩ := (show ∃ t, u = Value.int i t from r)
    exact PySem.W.Looks.of_pure rfl
  | str z =>
    obtain ⟨tk, rfl⟩ := (show ∃ t, u = Value.str z t from r)
    exact PySem.W.Looks.of_pure rfl
  | @lst q xs h =>
    obtain rfl : u = Value.ref q := r
    obtain ⟨_, _, n, _, e⟩ := (show ObjOk X.prog X.w H s.heap q (.lst xs) from I.hok q _ h)
    exact fun A Q E s2 kp z => wpAny_typeOf_ref (kp _ _ e) z
  | @tup q xs h =>
    obtain rfl : u = Value.ref q := r
    obtain ⟨_, _, _, ob, e, ec, _⟩ := (show ObjOk X.prog X.w H s.heap q (.tup xs) from I.hok q _ h)
    exact fun A Q E s2 kp z => wpAny_typeOf_ref (kp _ _ e) (by rw [ec]; exact z)
  | @dct q kvs h =>
    obtain rfl : u = Value.ref q := r
    obtain ⟨_, _, vs, _, ob, es, ep, e, ex, _⟩ := (show ObjOk X.prog X.w H s.heap q (.dK kvs) from I.hok q _ h)
    exact fun A Q E s2 kp z => wpAny_typeOf_ref (kp _ _ e) (by rw [ex.1]; exact z)
  | @ins q D dx fs h =>
    obtain rfl : u = Value.ref q := r
    obtain ⟨od, J⟩ := inst_at I h
    exact J.type
/-- o == y, o < y, .. by the class's own method -/
def rCmpO (K : PySem.W.Frag) (C : Addr) (sp : Sp) : R2 := fun x y H Q => ∃ (p dx : Addr) (fs : List (Str × V)) (t : Value), x = .ref p ∧ H p = some (.ins C dx fs) ∧ Tys K H y t ∧ PySem.W.notFirst K C t = true ∧ sp [.ref p, y] H Q E0
theorem rc_own {op : CmpOp} (S : Spc X.K C (cmpInfo op).2.1 f) (F : FnOk X.prog X.w X.K X.mg X.base CX k f fd ps sp) (hr : Room k X.A) (hb : Binds X.K fd ps []) (hx : ∀ σ, PassesAt CX X σ E0)
    {pins : List (Addr × Obj)} {σ : L2.St} {H : Hp} {s : Shared} {y : V} {v u : Value} {Q : VK} (I : Inv X pins σ H s) {z : V} (rz : RelV z v) (ry : RelV y u) (h : rCmpO X.K C sp z y H Q) :
    wpAny (model X.prog X.w) X.A (richCompare op v u) (EP X pins σ Q) X.xe s := by
  obtain ⟨p, dx, fs, t, rfl, hp, ty, nf, q⟩ := h
  obtain rfl : v = Value.ref p := rz
  obtain ⟨od, J⟩ := inst_at I hp
  obtain ⟨m, fr⟩ := I.fr
  refine PySem.W.cmp_K hr.units0 fr I.ok.mod.kin J (ty.looks I ry) nf S.at_ S.fn (thn (run_at (A := X.A) (vs := [.ref p, y]) rfl hr F hb (hx σ) I (.cons rfl (.cons ry .nil)) q) fun b s' w => ?_)
  obtain ⟨a', H', I', ra, q'⟩ := w
  have back : EP X pins σ Q b s' := ⟨a', H', I', ra, q'⟩
  cases a' with
  | non => cases ra; exact back
  | bl c => cases ra; exact back
  | int i => obtain ⟨tk, rfl⟩ := ra; exact back
  | str z => obtain ⟨tk, rfl⟩ := ra; exact back
  | byt z => obtain ⟨tk, rfl⟩ := ra; exact back
  | flt z => obtain ⟨tk, rfl⟩ := ra; exact back
  | ref z => cases ra; exact back
  | ty z => cases ra; exact back
theorem op_ltO (S : Spc X.K C "__lt__" f) (F : FnOk X.prog X.w X.K X.mg X.base CX k f fd ps sp) (hr : Room k X.A) (hb : Binds X.K fd ps []) (hx : ∀ σ, PassesAt CX X σ E0) : OpR X (compareOp .Lt) (rCmpO X.K C sp) :=
  fun pins s σ H x y v u Q I rx ry h => rc_own (op := .Lt) S F hr hb hx I rx ry h
theorem op_gtO (S : Spc X.K C "__gt__" f) (F : FnOk X.prog X.w X.K X.mg X.base CX k f fd ps sp) (hr : Room k X.A) (hb : Binds X.K fd ps []) (hx : ∀ σ, PassesAt CX X σ E0) : OpR X (compareOp .Gt) (rCmpO X.K C sp) :=
  fun pins s σ H x y v u Q I rx ry h => rc_own (op := .Gt) S F hr hb hx I rx ry h
end
end Tc

/-! # Own2 -/
namespace Tc
open PySem PySem.SeqAt
open AutoSeq1 (wpAny_loadPart')
open MeetsSeq MeetsSeq2 MeetsSeq3 SeqRoads2
open GQ (FinOf ListI)
section
variable {prog : Program} {w : World} {A : Around} {R : Result → Shared → Prop}
theorem ne_loopG (l b : Addr) (N : Nat) (I : Nat → Shared → Prop) (hl : ListI prog w A (fun e s' => R (.error e) s') l b N I)
    (fin : ∀ s, I N s → R (.ok (.ret (.bool false))) s) (k : Nat) :
    ∀ i : Nat, N - i = k → i ≤ N → ∀ s, I i s →
      wpAny (model prog w) A.in1 (Builtin.«list.__eq__.loop» ⟨[.ref l, .ref b, rawInt i, rawInt 3], []⟩) (FinOf prog w A R) (fun e s' => R (.error e) s') s := by
  induction k with
  | zero =>
    intro i hk hi s h
    obtain ⟨items, items2, n, n2, hl1, hb1, hs1, hs2, _⟩ := hl _ _ h
    have hi' : i = N := by omega
    have hR : R (.ok (.ret (.bool false))) s := fin s (hi' ▸ h)
    obtain ⟨hp, g, d, tk, os⟩ := s
    wp_walk using wpAny_loadPart' hl1, wpAny_loadPart' hb1
    have hi1 : items[((i : Nat) : Int).toNat]? = none := by simp; omega
    have hi2 : items2[((i : Nat) : Int).toNat]? = none := by simp; omega
    rw [hi1, hi2]
    wp_walk using wpAny_loadPart' hl1, wpAny_loadPart' hb1
    show R (.ok (.ret (.bool (items.size != items2.size)))) _
    rw [hs1, hs2]
    simpa using hR
  | succ k ih =>
    intro i hk hi s h
    obtain ⟨items, items2, n, n2, hl1, hb1, hs1, hs2, turn⟩ := hl _ _ h
    have hlt : i < items.size := by omega
    have hlt2 : i < items2.size := by omega
    have ht := turn hlt hlt2
    obtain ⟨hp, g, d, tk, os⟩ := s
    wp_walk using wpAny_loadPart' hl1, wpAny_loadPart' hb1
    have hi1 : items[((i : Nat) : Int).toNat]? = some items[i] := by simp [hlt]
    have hi2 : items2[((i : Nat) : Int).toNat]? = some items2[i] := by simp [hlt2]
    have hc : ((i : Int) + 1) = ((i + 1 : Nat) : Int) := by omega
    rw [hi1, hi2]
    refine wpAny_bind (wpAny_mono ht (fun r s2 h2 => ?_) fun _ _ x => x)
    obtain ⟨hr, h2⟩ := h2
    subst hr
    have hrec := ih (i + 1) (by omega) (by omega) s2 h2
    obtain ⟨hp2, g2, d2, tk2, os2⟩ := s2
    wp_walk
    rw [hc]
    exact ⟨plainId_quiet plain_eq_loop _, codeAny_builtin entry_eq_loop (by
      rw [Around.under_plainId plain_eq_loop _]
      exact hrec)⟩
theorem list_neG (l b : Addr) (N : Nat) (I : Nat → Shared → Prop) (hl : ListI prog w A (fun e s' => R (.error e) s') l b N I)
    (fin : ∀ s, I N s → R (.ok (.ret (.bool false))) s) {s : Shared} (h : I 0 s) :
    wpAny (model prog w) A.in1 (Builtin.«list.__ne__» ⟨[.ref l, .ref b], []⟩) (FinOf prog w A R) (fun e s' => R (.error e) s') s := by
  obtain ⟨items, items2, n, n2, hl1, hb1, hs1, hs2, _⟩ := hl _ _ h
  have hrec := ne_loopG (A := A) (R := R) l b N I hl fin _ 0 rfl (Nat.zero_le _) s h
  obtain ⟨hp, g, d, tk, os⟩ := s
  have f3 := AutoSeq1.sub_list_list
  have hne : ¬ (items.size != items2.size) = true := by simp [hs1, hs2]
  wp_walk using wpAny_loadPart' hl1, wpAny_loadPart' hb1
  exact ⟨plainId_quiet plain_eq_loop _, codeAny_builtin entry_eq_loop (by
    rw [Around.under_plainId plain_eq_loop _]
    exact hrec)⟩
end
section
variable {prog : Program} {w : World} {A : Around} {E : Value → Shared → Prop} {s : Shared}
theorem rc_ne_listG {l b : Addr} {N : Nat} {Q : Value → Shared → Prop} (hu : A.units < cLine) (I : Nat → Shared → Prop) (hl : ListI prog w A E l b N I)
    (fin : ∀ s, I N s → Q (.bool false) s) (h : I 0 s) : wpAny (model prog w) A (richCompare .NotEq (.ref l) (.ref b)) Q E s := by
  obtain ⟨items, items2, n, n2, hl1, hb1, _, _, _⟩ := hl _ _ h
  refine wpAny_richCompare_same_room (op := .NotEq) ⟨_, hl1, rfl⟩ ⟨_, hb1, rfl⟩ F.slot_list_ne (GQ.call_here F.slot_list_ne ⟨_, hl1, rfl⟩ F.entry_list_ne (F.args_list_ne_2 _ _) ?_) hu
  exact list_neG (R := wants (fun v s' => v ≠ .notImplemented ∧ Q v s') E) l b N I hl (fun s' q => ⟨(fun x => nomatch x), fin s' q⟩) h
end
open PySem.Spec PyProof.Rows L2
/-- p != q: two lists, equal item by item as D sees it -/
def rNeOwn (D : Eqv) : R2 := fun x y H Q => ∃ (a b : Addr) (xs ys : List V), x = .ref a ∧ y = .ref b ∧ H a = some (.lst xs) ∧ H b = some (.lst ys) ∧ Prs D xs ys H ∧ ∀ H', Ext H H' → Q (.bl false) H'
theorem op_neOwn {X : Cx} {n : Nat} {D : Eqv} (hD : Mon D) (h : EqG X n D) (hr : Room (n + 1) X.A) : OpR X (compareOp .NotEq) (rNeOwn D) := by
  intro pins s σ H x y v u Q I rx ry ⟨a, b, xs, ys, ex, ey, ha, hb, p, q⟩
  subst ex ey
  cases rx
  cases ry
  have sb : Sub X (n + 1) X.A := ⟨hr, rfl⟩
  refine rc_ne_listG (N := xs.length) hr.units0 (fun _ s' => LoopI X pins σ H s') (fun i s' q => ?_) (fun s' q' => ?_) ⟨H, I, Ext.rfl'⟩
  · obtain ⟨H1, I1, e1⟩ := id q
    obtain ⟨z, its, k, r, e⟩ := I1.hok a _ (e1 _ _ ha)
    obtain ⟨z2, its2, k2, r2, e2⟩ := I1.hok b _ (e1 _ _ hb)
    refine ⟨its.toArray, its2.toArray, k, k2, e, e2, by rw [List.size_toArray, ← r.length], by rw [List.size_toArray, ← r2.length, ← p.1], fun h1 h2 => ?_⟩
    exact turnG hD h sb p r r2 i h1 h2 s' q
  · obtain ⟨H', I', e'⟩ := q'
    exact ⟨.bl false, H', I', rfl, q H' e'⟩
end Tc

/-! # Own3 -/
namespace PySem.W
open PySem PySem.Spec PyProof.Rows
section
variable {prog : Program} {w : World} {A : Around} {E : Value → Shared → Prop} {s : Shared} {K : Frag} {x C L f : Addr} {h₀ : Heap} {m : Str → Option Value} {ox : Obj} {od : Option Obj} {T : String}
end
end PySem.W

namespace Tc
open PySem PySem.Spec PyProof.Rows L2
section
variable {X : Cx} {CX : CXT} {k : Nat} {f g C : Addr} {fd : FuncData} {ps : List Str} {sp : Sp} {pos : Pos} {a b : Expr} {ta tb : TE}
/-- the types of values that are no objects of a class of the text -/
theorem Tys.built {K : PySem.W.Frag} {H : Hp} {y : V} {t : Value} (h : Tys K H y t) (n : ∀ D, t ≠ .ref D) : ∃ T fo ro, t = .type T ∧ PySem.W.findIn K (.type T) "__add__" = some fo ∧ PySem.W.findIn K (.type T) "__radd__" = some ro := by
  cases h with
  | non => exact ⟨_, _, _, rfl, rfl, rfl⟩
  | bl b => exact ⟨_, _, _, rfl, rfl, rfl⟩
  | int i => exact ⟨_, _, _, rfl, rfl, rfl⟩
  | str z => exact ⟨_, _, _, rfl, rfl, rfl⟩
  | lst h => exact ⟨_, _, _, rfl, rfl, rfl⟩
  | tup h => exact ⟨_, _, _, rfl, rfl, rfl⟩
  | dct h => exact ⟨_, _, _, rfl, rfl, rfl⟩
  | ins h => exact absurd rfl (n _)
end
end Tc

/-! # Own4 -/
namespace PySem.W
open PySem PySem.SeqAt PySem.Spec PyProof.Rows
section
variable {prog : Program} {w : World} {A : Around} {E : Value → Shared → Prop} {s : Shared} {K : Frag} {x C L f : Addr} {h₀ : Heap} {m : Str → Option Value} {ox : Obj} {od : Option Obj} {T : String}
end
end PySem.W
namespace Tc
open PySem PySem.Spec PyProof.Rows L2
section
variable {X : Cx} {CX : CXT} {k : Nat} {f g C : Addr} {fd : FuncData} {ps : List Str} {sp : Sp} {pos : Pos} {a b : Expr} {ta tb : TE}
end
end Tc

/-! # Pu1 -/
namespace Pu
open PySem PySem.Spec PyProof.Rows L2

/-! # data: what a value says, without where it stands -/
inductive D where
  | non | bl (b : Bool) | int (i : Int) | str (s : Str)
  | lst (l : List D) | tup (l : List D) | dct (l : List (Key × D)) | obj (c : Nat) (l : List (Nat × D))
  | scr (l : List Int) | ctp (l : List D) | exv (c : Nat)
  | tl (a : Addr) (l : List D) | pt (a : Addr)
  deriving Inhabited

/-- an exception object that is held as a value; its fields stand at d -/
def ExV (C : Addr) (d : Option Addr) (a : Addr) : HO := .ext fun h => ∃ (oe : Obj) (vs : Array Value), h.get? a = some oe ∧ oe.cls = .ref C ∧ oe.dict = d ∧ oe.data = .fields vs
/-- what stands where: the written part, the classes and the names of attributes by number -/
structure Lay where
  K : PySem.W.Frag
  cls : List Addr
  xcs : List Addr
  nms : List Str
  nd : nms.Nodup
  /-- tables of code objects that may grow -/
  tabs : List (Addr × Str) := []

mutual
inductive Rep (L : Lay) (F : Hp) : V → D → Prop
  | non : Rep L F .non .non
  | bl (b : Bool) : Rep L F (.bl b) (.bl b)
  | int (i : Int) : Rep L F (.int i) (.int i)
  | str (s : Str) : Rep L F (.str s) (.str s)
  | lst {a : Addr} {vs : List V} {ds : List D} (h : F a = some (.lst vs)) (r : RepA L F vs ds) : Rep L F (.ref a) (.lst ds)
  | scr {a : Addr} (l : List Int) (h : SqL L.K F a (l.map V.int)) : Rep L F (.ref a) (.scr l)
  | tup {a : Addr} {vs : List V} {ds : List D} (h : F a = some (.tup vs)) (r : RepA L F vs ds) : Rep L F (.ref a) (.tup ds)
  | ctp {a : Addr} {vs : List V} {ds : List D} (h : SqT L.K F a vs) (r : RepA L F vs ds) : Rep L F (.ref a) (.ctp ds)
  | dct {a : Addr} {kvs : List (Key × V)} {ds : List (Key × D)} (h : F a = some (.dK kvs)) (r : RepD L F kvs ds) : Rep L F (.ref a) (.dct ds)
  | obj {a dx C : Addr} {c : Nat} {fs : List (Str × V)} {ds : List (Nat × D)} (hc : L.cls[c]? = some C) (h : F a = some (.ins C dx fs)) (r : RepF L F fs ds) : Rep L F (.ref a) (.obj c ds)
  | exv {a dx C : Addr} {c : Nat} {fs : List (Str × V)} (hc : L.xcs[c]? = some C) (h : F a = some (ExV C (some dx) a)) (hd : F dx = some (.xd fs)) : Rep L F (.ref a) (.exv c)
  | tl {a : Addr} {vs : List V} {ds : List D} (h : F a = some (.lst vs)) (r : RepA L F vs ds) : Rep L F (.ref a) (.tl a ds)
  | pt {a : Addr} : Rep L F (.ref a) (.pt a)
inductive RepA (L : Lay) (F : Hp) : List V → List D → Prop
  | nil : RepA L F [] []
  | cons {v : V} {d : D} {vs : List V} {ds : List D} (h : Rep L F v d) (r : RepA L F vs ds) : RepA L F (v :: vs) (d :: ds)
inductive RepD (L : Lay) (F : Hp) : List (Key × V) → List (Key × D) → Prop
  | nil : RepD L F [] []
  | cons {k : Key} {v : V} {d : D} {vs : List (Key × V)} {ds : List (Key × D)} (h : Rep L F v d) (r : RepD L F vs ds) : RepD L F ((k, v) :: vs) ((k, d) :: ds)
inductive RepF (L : Lay) (F : Hp) : List (Str × V) → List (Nat × D) → Prop
  | nil : RepF L F [] []
  | cons {n : Str} {k : Nat} {v : V} {d : D} {vs : List (Str × V)} {ds : List (Nat × D)} (hk : L.nms[k]? = some n) (h : Rep L F v d) (r : RepF L F vs ds) : RepF L F ((n, v) :: vs) ((k, d) :: ds)
end
theorem same_seqT {K : PySem.W.Frag} {H H' : Hp} {a : Addr} {xs : List V} (e : Same H H') (h : SqT K H a xs) : SqT K H' a xs := by
  rcases h with (h | ⟨o, h⟩) | h
  · exact .inl (.inl (e _ _ h))
  · exact .inl (.inr ⟨o, e _ _ h⟩)
  · exact .inr h
section
variable {L : Lay} {F F' H H' : Hp}
mutual
theorem Rep.mono (e : Same F F') : ∀ {v : V} {d : D}, Rep L F v d → Rep L F' v d
  | _, _, .non => .non
  | _, _, .bl b => .bl b
  | _, _, .int i => .int i
  | _, _, .str s => .str s
  | _, _, .lst h r => .lst (e _ _ h) (r.mono e)
  | _, _, .scr l h => .scr l (e.seq h)
  | _, _, .tup h r => .tup (e _ _ h) (r.mono e)
  | _, _, .ctp h r => .ctp (same_seqT e h) (r.mono e)
  | _, _, .dct h r => .dct (e _ _ h) (r.mono e)
  | _, _, .obj hc h r => .obj hc (e _ _ h) (r.mono e)
  | _, _, .exv hc h hd => .exv hc (e _ _ h) (e _ _ hd)
  | _, _, .tl h r => .tl (e _ _ h) (r.mono e)
  | _, _, .pt => .pt
theorem RepA.mono (e : Same F F') : ∀ {v : List V} {d : List D}, RepA L F v d → RepA L F' v d
  | _, _, .nil => .nil
  | _, _, .cons h r => .cons (h.mono e) (r.mono e)
theorem RepD.mono (e : Same F F') : ∀ {v : List (Key × V)} {d : List (Key × D)}, RepD L F v d → RepD L F' v d
  | _, _, .nil => .nil
  | _, _, .cons h r => .cons (h.mono e) (r.mono e)
theorem RepF.mono (e : Same F F') : ∀ {v : List (Str × V)} {d : List (Nat × D)}, RepF L F v d → RepF L F' v d
  | _, _, .nil => .nil
  | _, _, .cons hk h r => .cons hk (h.mono e) (r.mono e)
end
theorem RepA.length : ∀ {v : List V} {d : List D}, RepA L F v d → v.length = d.length
  | _, _, .nil => rfl
  | _, _, .cons _ r => by simp [r.length]
theorem RepA.get : ∀ {v : List V} {d : List D} {i : Nat} {x : D}, RepA L F v d → d[i]? = some x → ∃ y, v[i]? = some y ∧ Rep L F y x
  | _, _, _, _, .nil, h => by simp at h
  | _, _, 0, _, .cons h _, e => by simp at e; subst e; exact ⟨_, by simp, h⟩
  | _, _, i + 1, _, .cons _ r, e => by
    obtain ⟨y, e1, e2⟩ := r.get (i := i) (by simpa using e)
    exact ⟨y, by simpa using e1, e2⟩
theorem RepA.append : ∀ {v w : List V} {d e : List D}, RepA L F v d → RepA L F w e → RepA L F (v ++ w) (d ++ e)
  | _, _, _, _, .nil, s => s
  | _, _, _, _, .cons h r, s => .cons h (r.append s)
theorem RepA.take : ∀ {v : List V} {d : List D} (n : Nat), RepA L F v d → RepA L F (v.take n) (d.take n)
  | _, _, 0, _ => .nil
  | _, _, _ + 1, .nil => .nil
  | _, _, n + 1, .cons h r => .cons h (r.take n)
theorem RepA.drop : ∀ {v : List V} {d : List D} (n : Nat), RepA L F v d → RepA L F (v.drop n) (d.drop n)
  | _, _, 0, r => r
  | _, _, _ + 1, .nil => .nil
  | _, _, n + 1, .cons _ r => r.drop n
theorem RepA.set {x : V} {y : D} (h : Rep L F x y) : ∀ {v : List V} {d : List D} (n : Nat), RepA L F v d → RepA L F (v.set n x) (d.set n y)
  | _, _, _, .nil => .nil
  | _, _, 0, .cons _ r => .cons h r
  | _, _, n + 1, .cons q r => .cons q (r.set h n)
theorem RepA.reverse : ∀ {v : List V} {d : List D}, RepA L F v d → RepA L F v.reverse d.reverse
  | _, _, .nil => .nil
  | _, _, .cons h r => by
    rw [List.reverse_cons, List.reverse_cons]
    exact r.reverse.append (.cons h .nil)
theorem RepA.of_ints : ∀ {v : List V} {l : List Int}, RepA L F v (l.map D.int) → v = l.map V.int
  | _, [], .nil => rfl
  | _, i :: l, .cons h r => by
    cases h
    rw [r.of_ints]
    rfl
theorem RepF.lookup : ∀ {v : List (Str × V)} {d : List (Nat × D)} {k : Nat} {n : Str} {x : D}, RepF L F v d → L.nms[k]? = some n → d.lookup k = some x → ∃ y, v.lookup n = some y ∧ Rep L F y x
  | _, _, _, _, _, .nil, _, e => by simp at e
  | (n', v) :: vs, (k', d) :: ds, k, n, x, .cons hk h r, hn, e => by
    by_cases ek : k = k'
    · subst ek
      rw [hk] at hn
      cases hn
      simp [List.lookup] at e ⊢
      subst e
      exact h
    · have en : ¬ n = n' := fun z => ek (by
        subst z
        have h1 := (List.getElem?_eq_some_iff.mp hk)
        have h2 := (List.getElem?_eq_some_iff.mp hn)
        obtain ⟨l1, g1⟩ := h1
        obtain ⟨l2, g2⟩ := h2
        exact (List.getElem_inj L.nd).mp (g2.trans g1.symm))
      have b1 : (k == k') = false := by simpa using ek
      have b2 : (n == n') = false := by simpa using en
      simp only [List.lookup, b1, b2] at e ⊢
      exact r.lookup hn e
theorem RepF.none : ∀ {v : List (Str × V)} {d : List (Nat × D)} {k : Nat} {n : Str}, RepF L F v d → L.nms[k]? = some n → d.lookup k = none → v.lookup n = none
  | _, _, _, _, .nil, _, e => rfl
  | (n', v) :: vs, (k', d) :: ds, k, n, .cons hk h r, hn, e => by
    by_cases ek : k = k'
    · subst ek
      simp [List.lookup] at e
    · have en : ¬ n = n' := fun z => ek (by
        subst z
        obtain ⟨l1, g1⟩ := List.getElem?_eq_some_iff.mp hk
        obtain ⟨l2, g2⟩ := List.getElem?_eq_some_iff.mp hn
        exact (List.getElem_inj L.nd).mp (g2.trans g1.symm))
      have b1 : (k == k') = false := by simpa using ek
      have b2 : (n == n') = false := by simpa using en
      simp only [List.lookup, b1, b2] at e ⊢
      exact r.none hn e
/-- a name that is no attribute's -/
theorem RepF.off : ∀ {v : List (Str × V)} {d : List (Nat × D)} {n : Str}, RepF L F v d → n ∉ L.nms → v.lookup n = Option.none
  | _, _, _, .nil, _ => rfl
  | (n', v) :: vs, (k', d) :: ds, n, .cons hk h r, hn => by
    have en : ¬ n = n' := fun z => hn (by
      subst z
      exact List.mem_of_getElem? hk)
    have b2 : (n == n') = false := by simpa using en
    simp only [List.lookup, b2]
    exact r.off hn
def putN (k : Nat) (d : D) : List (Nat × D) → List (Nat × D)
  | [] => [(k, d)]
  | (j, e) :: r => if j = k then (k, d) :: r else (j, e) :: putN k d r
theorem RepF.put {k : Nat} {n : Str} {x : V} {y : D} (hn : L.nms[k]? = some n) (h : Rep L F x y) : ∀ {v : List (Str × V)} {d : List (Nat × D)}, RepF L F v d → RepF L F (putF n x v) (putN k y d)
  | _, _, .nil => .cons hn h .nil
  | (n', v) :: vs, (k', d) :: ds, .cons hk q r => by
    by_cases ek : k' = k
    · subst ek
      rw [hk] at hn
      cases hn
      simp only [putF, putN, if_pos rfl]
      exact .cons hk h r
    · have en : ¬ n' = n := fun z => ek (by
        subst z
        obtain ⟨l1, g1⟩ := List.getElem?_eq_some_iff.mp hk
        obtain ⟨l2, g2⟩ := List.getElem?_eq_some_iff.mp hn
        exact (List.getElem_inj L.nd).mp (g1.trans g2.symm))
      simp only [putF, putN, if_neg ek, if_neg en]
      exact .cons hk q (r.put hn h)
theorem RepF.len : ∀ {v : List (Str × V)} {d : List (Nat × D)}, RepF L F v d → v.length = d.length
  | _, _, .nil => rfl
  | _, _, .cons _ _ r => by simp [r.len]
end
end Pu

/-! # Pu2 -/
namespace Pu
open PySem PySem.Spec PyProof.Rows L2

/-! # a def's slots: data that stays, or one's own thing that may be changed (own: made here; io: handed in to be changed) -/
inductive Sl where
  | no | dat (d : D) | own (d : D) | io (d : D)
  deriving Inhabited
abbrev Env' := List Sl

/-- the thing at p is ours; what is in it stays -/
def Own (L : Lay) (F H : Hp) (p : Addr) : D → Prop
  | .lst ds => ∃ vs, H p = some (.lst vs) ∧ RepA L F vs ds
  | .dct ds => ∃ kvs, H p = some (.dK kvs) ∧ RepD L F kvs ds
  | .obj c ds => ∃ C dx fs, L.cls[c]? = some C ∧ H p = some (.ins C dx fs) ∧ RepF L F fs ds
  | _ => False
theorem Own.mono {L : Lay} {F F' H H' : Hp} {p : Addr} {d : D} (h : Own L F H p d) (e : Same F F') (k : ∀ o, H p = some o → H' p = some o) : Own L F' H' p d := by
  cases d with
  | lst ds => obtain ⟨vs, h1, h2⟩ := h; exact ⟨vs, k _ h1, h2.mono e⟩
  | dct ds => obtain ⟨vs, h1, h2⟩ := h; exact ⟨vs, k _ h1, h2.mono e⟩
  | obj c ds => obtain ⟨C, dx, fs, h0, h1, h2⟩ := h; exact ⟨C, dx, fs, h0, k _ h1, h2.mono e⟩
  | _ => exact h.elim
theorem Own.there {L : Lay} {F H : Hp} {p : Addr} {d : D} (h : Own L F H p d) : ∃ o, H p = some o := by
  cases d with
  | lst ds => obtain ⟨vs, h1, h2⟩ := h; exact ⟨_, h1⟩
  | dct ds => obtain ⟨vs, h1, h2⟩ := h; exact ⟨_, h1⟩
  | obj c ds => obtain ⟨C, dx, fs, h0, h1, h2⟩ := h; exact ⟨_, h1⟩
  | _ => exact h.elim
/-- what stays: p's thing is laid down for good -/
theorem Own.lay {L : Lay} {F H : Hp} {p : Addr} {d : D} (h : Own L F H p d) (n : F p = none) : ∃ o, H p = some o ∧ Same F (upd F p o) ∧ Rep L (upd F p o) (.ref p) d := by
  have s : ∀ o, Same F (upd F p o) := fun o b u e => by
    rw [upd_ne (ne_of_none e n)]
    exact e
  cases d with
  | lst ds => obtain ⟨vs, h1, h2⟩ := h; exact ⟨_, h1, s _, .lst upd_same (h2.mono (s _))⟩
  | dct ds => obtain ⟨vs, h1, h2⟩ := h; exact ⟨_, h1, s _, .dct upd_same (h2.mono (s _))⟩
  | obj c ds => obtain ⟨C, dx, fs, h0, h1, h2⟩ := h; exact ⟨_, h1, s _, .obj h0 upd_same (h2.mono (s _))⟩
  | _ => exact h.elim

/-- what can be read: the top in H, what is in it stays -/
def Top (L : Lay) (F H : Hp) (v : V) : D → Prop
  | .lst ds => ∃ a vs, v = .ref a ∧ H a = some (.lst vs) ∧ RepA L F vs ds
  | .scr l => ∃ a, v = .ref a ∧ SqL L.K H a (l.map V.int)
  | .tup ds => ∃ a vs, v = .ref a ∧ F a = some (.tup vs) ∧ RepA L F vs ds
  | .ctp ds => ∃ a vs, v = .ref a ∧ SqT L.K F a vs ∧ RepA L F vs ds
  | .dct ds => ∃ a kvs, v = .ref a ∧ H a = some (.dK kvs) ∧ RepD L F kvs ds
  | .obj c ds => ∃ a C dx fs, v = .ref a ∧ L.cls[c]? = some C ∧ H a = some (.ins C dx fs) ∧ RepF L F fs ds
  | .exv c => ∃ a dx C fs, v = .ref a ∧ L.xcs[c]? = some C ∧ F a = some (ExV C (some dx) a) ∧ F dx = some (.xd fs)
  | .tl a ds => v = .ref a ∧ ∃ vs, H a = some (.lst vs) ∧ RepA L F vs ds
  | .pt a => v = .ref a
  | .non => v = .non
  | .bl b => v = .bl b
  | .int i => v = .int i
  | .str s => v = .str s
theorem Rep.top {L : Lay} {F H : Hp} {v : V} {d : D} (h : Rep L F v d) (e : Same F H) : Top L F H v d := by
  cases h with
  | non => rfl
  | bl b => rfl
  | int i => rfl
  | str s => rfl
  | lst h r => exact ⟨_, _, rfl, e _ _ h, r⟩
  | scr l h => exact ⟨_, rfl, e.seq h⟩
  | tup h r => exact ⟨_, _, rfl, h, r⟩
  | ctp h r => exact ⟨_, _, rfl, h, r⟩
  | dct h r => exact ⟨_, _, rfl, e _ _ h, r⟩
  | exv hc h hd => exact ⟨_, _, _, _, rfl, hc, h, hd⟩
  | tl h r => exact ⟨rfl, _, e _ _ h, r⟩
  | pt => rfl
  | obj hc h r => exact ⟨_, _, _, _, rfl, hc, e _ _ h, r⟩
theorem Own.top {L : Lay} {F H : Hp} {p : Addr} {d : D} (h : Own L F H p d) : Top L F H (.ref p) d := by
  cases d with
  | lst ds => obtain ⟨vs, h1, h2⟩ := h; exact ⟨_, _, rfl, h1, h2⟩
  | dct ds => obtain ⟨vs, h1, h2⟩ := h; exact ⟨_, _, rfl, h1, h2⟩
  | obj c ds => obtain ⟨C, dx, fs, h0, h1, h2⟩ := h; exact ⟨_, _, _, _, rfl, h0, h1, h2⟩
  | _ => exact h.elim

/-- Z: the heap at the def's entry: what is one's own was not there -/
def SlR (L : Lay) (Z F H : Hp) : Option V → Sl → Prop
  | _, .no => True
  | some v, .dat d => Rep L F v d
  | some v, .own d => ∃ p, v = .ref p ∧ F p = none ∧ Own L F H p d ∧ Z p = none
  | some v, .io d => ∃ p, v = .ref p ∧ F p = none ∧ Own L F H p d
  | none, _ => False
/-- the i-th slot holds a thing of ours, at p -/
def Mu (σ : L2.St) (env : Env') (i : Nat) (p : Addr) : Prop := σ[i]? = some (some (.ref p)) ∧ ((∃ d, env[i]? = some (.own d)) ∨ ∃ d, env[i]? = some (.io d))
/-- no table, where tables are in use -/
def NoT (L : Lay) (o : HO) : Prop := L.tabs = [] ∨ ∀ ps, o ≠ .tbl ps
def NtF (L : Lay) (F : Hp) : Prop := ∀ a o, F a = some o → NoT L o
theorem NtF.nil {L : Lay} {F : Hp} (h : L.tabs = []) : NtF L F := fun _ _ _ => .inl h
theorem Tb.nil {L : Lay} {H : Hp} (h : L.tabs = []) : LamX.Tabs L.tabs H := fun p m => by
  rw [h] at m
  cases m
/-- the heap but for the tables, where tables are in use -/
def noTbL (L : Lay) (o : HO) : Option HO := match L.tabs, o with
  | _ :: _, .tbl _ => none
  | _, o => some o
def cutL (L : Lay) (H : Hp) : Hp := fun b => (H b).bind (noTbL L)
theorem cut_none {L : Lay} {H : Hp} {a : Addr} (n : H a = none) : cutL L H a = none := by
  unfold cutL
  rw [n]
  rfl
theorem noTbL_some {L : Lay} {o : HO} (t : NoT L o) : noTbL L o = some o := by
  unfold noTbL
  rcases t with t | t
  · rw [t]
  · split
    · exact absurd rfl (t _)
    · rfl
theorem cut_some {L : Lay} {H : Hp} {a : Addr} {o : HO} (e : H a = some o) (t : NoT L o) : cutL L H a = some o := by
  unfold cutL
  rw [e]
  exact noTbL_some t
theorem cut_of {L : Lay} {H : Hp} {a : Addr} {o : HO} (e : cutL L H a = some o) : H a = some o ∧ NoT L o := by
  unfold cutL at e
  cases q : H a with
  | none => rw [q] at e; cases e
  | some u =>
    rw [q] at e
    have e : noTbL L u = some o := e
    unfold noTbL at e
    cases z : L.tabs with
    | nil =>
      rw [z] at e
      cases e
      exact ⟨rfl, .inl z⟩
    | cons x xs =>
      rw [z] at e
      cases u with
      | tbl ps => cases e
      | _ =>
        cases e
        exact ⟨rfl, .inr fun ps eq => nomatch eq⟩
theorem cut_not {L : Lay} {H : Hp} {a : Addr} {o : HO} (z : cutL L H a = none) (e : H a = some o) (t : NoT L o) : False := by
  rw [cut_some e t] at z
  cases z
theorem Own.noT {L : Lay} {F H : Hp} {p : Addr} {d : D} {o : HO} (h : Own L F H p d) (e : H p = some o) : NoT L o := .inr fun ps z => by
  subst z
  cases d with
  | lst ds => obtain ⟨vs, h1, h2⟩ := h; rw [e] at h1; cases h1
  | dct ds => obtain ⟨vs, h1, h2⟩ := h; rw [e] at h1; cases h1
  | obj c ds => obtain ⟨C, dx, fs, h0, h1, h2⟩ := h; rw [e] at h1; cases h1
  | _ => exact h.elim
/-- another thing's change leaves the tables -/
theorem Tb.upd0 {L : Lay} {H : Hp} {p : Addr} {u o : HO} (t : LamX.Tabs L.tabs H) (h : H p = some u) (n1 : ∀ ps, u ≠ .tbl ps) (n2 : ∀ φ, u ≠ .ext φ) : LamX.Tabs L.tabs (upd H p o) := fun x m => by
  obtain ⟨ps, h1, h2, h3⟩ := t x m
  refine ⟨ps, by rw [upd_ne (fun z => by rw [z, h] at h1; exact n1 _ (Option.some.inj h1))]; exact h1, h2, fun pos cv hc => ?_⟩
  obtain ⟨c, e1, e2⟩ := h3 pos cv hc
  exact ⟨c, e1, by rw [upd_ne (fun z => by rw [z, h] at e2; exact n2 _ (Option.some.inj e2))]; exact e2⟩
theorem Tb.upd {L : Lay} {F H : Hp} {p : Addr} {d : D} {o : HO} (t : LamX.Tabs L.tabs H) (h : Own L F H p d) : LamX.Tabs L.tabs (upd H p o) := by
  cases d with
  | lst ds => obtain ⟨vs, h1, h2⟩ := h; exact Tb.upd0 t h1 (fun _ z => nomatch z) fun _ z => nomatch z
  | dct ds => obtain ⟨vs, h1, h2⟩ := h; exact Tb.upd0 t h1 (fun _ z => nomatch z) fun _ z => nomatch z
  | obj c ds => obtain ⟨C, dx, fs, h0, h1, h2⟩ := h; exact Tb.upd0 t h1 (fun _ z => nomatch z) fun _ z => nomatch z
  | _ => exact h.elim
structure Ok (L : Lay) (Z F H : Hp) (σ : L2.St) (env : Env') : Prop where
  fh : Same F H
  tb : LamX.Tabs L.tabs H
  nt : NtF L F
  zh : ∀ a, cutL L H a = none → Z a = none
  len : σ.length = env.length
  sl : ∀ (i : Nat) (s : Option V) (e : Sl), σ[i]? = some s → env[i]? = some e → SlR L Z F H s e
  ds : ∀ (i j : Nat) (p : Addr), Mu σ env i p → Mu σ env j p → i = j
section
variable {L : Lay} {Z F H F' H' F1 H1 F2 H2 : Hp} {σ σ' σ1 σ2 : L2.St} {env env' env1 env2 : Env'}
theorem Ok.dat (k : Ok L Z F H σ env) {i : Nat} {d : D} (e : env[i]? = some (.dat d)) : ∃ v, σ[i]? = some (some v) ∧ Rep L F v d := by
  have hi : i < σ.length := by
    rw [k.len]
    exact (List.getElem?_eq_some_iff.mp e).1
  have h := k.sl i _ _ (List.getElem?_eq_getElem hi) e
  cases q : σ[i] with
  | none => rw [q] at h; exact h.elim
  | some v =>
    rw [q] at h
    exact ⟨v, by rw [List.getElem?_eq_getElem hi, q], h⟩
theorem Ok.mut (k : Ok L Z F H σ env) {i : Nat} {d : D} (e : env[i]? = some (.own d) ∨ env[i]? = some (.io d)) : ∃ p, σ[i]? = some (some (.ref p)) ∧ F p = none ∧ Own L F H p d ∧ Mu σ env i p ∧ (env[i]? = some (.own d) → Z p = none) := by
  have hi : i < σ.length := by
    rw [k.len]
    rcases e with e | e <;> exact (List.getElem?_eq_some_iff.mp e).1
  have h : ∃ p, σ[i] = some (.ref p) ∧ F p = none ∧ Own L F H p d ∧ (env[i]? = some (.own d) → Z p = none) := by
    rcases e with e | e
    · have := k.sl i _ _ (List.getElem?_eq_getElem hi) e
      cases q : σ[i] with
      | none => rw [q] at this; exact this.elim
      | some v =>
        rw [q] at this
        obtain ⟨p, rfl, h1, h2, h3⟩ := this
        exact ⟨p, rfl, h1, h2, fun _ => h3⟩
    · have := k.sl i _ _ (List.getElem?_eq_getElem hi) e
      cases q : σ[i] with
      | none => rw [q] at this; exact this.elim
      | some v =>
        rw [q] at this
        obtain ⟨p, rfl, h1, h2⟩ := this
        exact ⟨p, rfl, h1, h2, fun z => by rw [e] at z; cases z⟩
  obtain ⟨p, q, h1, h2, h3⟩ := h
  have e1 : σ[i]? = some (some (.ref p)) := by rw [List.getElem?_eq_getElem hi, q]
  exact ⟨p, e1, h1, h2, ⟨e1, e.imp (fun e => ⟨_, e⟩) fun e => ⟨_, e⟩⟩, h3⟩
theorem Ok.mu (k : Ok L Z F H σ env) {i : Nat} {p : Addr} (m : Mu σ env i p) : F p = none ∧ ∃ d, Own L F H p d ∧ (env[i]? = some (.own d) ∨ env[i]? = some (.io d)) := by
  obtain ⟨e, m⟩ := m
  rcases m with ⟨d, m⟩ | ⟨d, m⟩
  · obtain ⟨q, h1, h2, h3, _⟩ := k.mut (.inl m)
    rw [e] at h1
    cases h1
    exact ⟨h2, d, h3, .inl m⟩
  · obtain ⟨q, h1, h2, h3, _⟩ := k.mut (.inr m)
    rw [e] at h1
    cases h1
    exact ⟨h2, d, h3, .inr m⟩
/-- a slot's word carried to other heaps -/
theorem SlR.mono {F' H' : Hp} {x : Option V} {e : Sl} (h : SlR L Z F H x e) (s : Same F F') (k : ∀ p, x = some (.ref p) → ((∃ d, e = .own d) ∨ ∃ d, e = .io d) → F' p = none ∧ ∀ o, H p = some o → H' p = some o) : SlR L Z F' H' x e := by
  cases e with
  | no => cases x <;> trivial
  | dat d =>
    cases x with
    | none => exact h
    | some v => exact Rep.mono s h
  | own d =>
    cases x with
    | none => exact h
    | some v =>
      obtain ⟨p, rfl, b, c, z⟩ := h
      obtain ⟨k1, k2⟩ := k p rfl (.inl ⟨_, rfl⟩)
      exact ⟨p, rfl, k1, c.mono s k2, z⟩
  | io d =>
    cases x with
    | none => exact h
    | some v =>
      obtain ⟨p, rfl, b, c⟩ := h
      obtain ⟨k1, k2⟩ := k p rfl (.inr ⟨_, rfl⟩)
      exact ⟨p, rfl, k1, c.mono s k2⟩
theorem mu_of {i : Nat} {p : Addr} {x : Option V} {e : Sl} (h1 : σ[i]? = some x) (h2 : env[i]? = some e) (hx : x = some (.ref p)) (he : (∃ d, e = .own d) ∨ ∃ d, e = .io d) : Mu σ env i p := by
  subst hx
  refine ⟨h1, ?_⟩
  rcases he with ⟨d, rfl⟩ | ⟨d, rfl⟩
  · exact .inl ⟨d, h2⟩
  · exact .inr ⟨d, h2⟩
theorem none_of {a : Addr} (h : ∀ o, H a ≠ some o) : H a = none := by
  cases q : H a with
  | none => rfl
  | some o => exact absurd q (h o)
theorem same_upd {p : Addr} {o : HO} (h : H p = none) : Same H (upd H p o) := fun b u e => by
  rw [upd_ne (ne_of_none e h)]
  exact e
theorem Ok.free (k : Ok L Z F H σ env) {p : Addr} (n : H p = none) : F p = none := none_of fun o e => by
  rw [k.fh _ _ e] at n
  cases n
theorem Ok.nomu (k : Ok L Z F H σ env) {p : Addr} (n : cutL L H p = none) (i : Nat) : ¬ Mu σ env i p := fun m => by
  obtain ⟨_, d, o, _⟩ := k.mu m
  obtain ⟨u, e⟩ := o.there
  exact cut_not n e (o.noT e)

/-- from one state to a later one: what stays grows; of the rest only our things may change -/
structure Go (L : Lay) (Z F H : Hp) (σ : L2.St) (env : Env') (F' H' : Hp) (σ' : L2.St) (env' : Env') : Prop where
  ff : Same F F'
  kp : ∀ a o, H a = some o → NoT L o → (∀ i, ¬ Mu σ env i a) → H' a = some o
  fr : ∀ a o, H a = some o → NoT L o → (∀ i, ¬ Mu σ env i a) → F' a = F a
  dm : ∀ a o, H a = some o → NoT L o → ∃ o', H' a = some o' ∧ NoT L o'
  mm : ∀ i a, Mu σ' env' i a → (∃ j, Mu σ env j a) ∨ cutL L H a = none
  io : ∀ (j : Nat) (d' : D), env'[j]? = some (.io d') → σ'[j]? = σ[j]? ∧ ∃ d, env[j]? = some (.io d)
  ok : Ok L Z F' H' σ' env'
theorem Go.refl (k : Ok L Z F H σ env) : Go L Z F H σ env F H σ env :=
  ⟨Same.refl _, fun _ _ e _ _ => e, fun _ _ _ _ _ => rfl, fun _ o e t => ⟨o, e, t⟩, fun i _ m => .inl ⟨i, m⟩, fun j d e => ⟨rfl, d, e⟩, k⟩
theorem Go.dn (g : Go L Z F H σ env F' H' σ' env') {a : Addr} (n : cutL L H' a = none) : cutL L H a = none := none_of fun o e => by
  obtain ⟨e1, t⟩ := cut_of e
  obtain ⟨o', e', t'⟩ := g.dm a o e1 t
  exact cut_not n e' t'
theorem Go.trans (g : Go L Z F H σ env F1 H1 σ1 env1) (h : Go L Z F1 H1 σ1 env1 F2 H2 σ2 env2) : Go L Z F H σ env F2 H2 σ2 env2 where
  ff := g.ff.trans h.ff
  kp := fun a o e t n => h.kp a o (g.kp a o e t n) t fun i m => (g.mm i a m).elim (fun ⟨j, m'⟩ => n j m') fun z => cut_not z e t
  fr := fun a o e t n => let ⟨o1, e1, t1⟩ := g.dm a o e t; (h.fr a o1 e1 t1 fun i m => (g.mm i a m).elim (fun ⟨j, m'⟩ => n j m') fun z => cut_not z e t).trans (g.fr a o e t n)
  dm := fun a o e t => let ⟨o1, e1, t1⟩ := g.dm a o e t; h.dm a o1 e1 t1
  mm := fun i a m => (h.mm i a m).elim (fun ⟨j, m'⟩ => g.mm j a m') fun z => .inr (g.dn z)
  io := fun j d e => let ⟨a, d1, e1⟩ := h.io j d e; let ⟨b, d2, e2⟩ := g.io j d1 e1; ⟨a.trans b, d2, e2⟩
  ok := h.ok
/-- new things beside, which nobody holds yet -/
theorem Go.more (k : Ok L Z F H σ env) (s : Same H H') : Go L Z F H σ env F H' σ env where
  ff := Same.refl _
  kp := fun a o e _ _ => s a o e
  fr := fun _ _ _ _ _ => rfl
  dm := fun a o e t => ⟨o, s a o e, t⟩
  mm := fun i a m => .inl ⟨i, m⟩
  io := fun j d e => ⟨rfl, d, e⟩
  ok := ⟨k.fh.trans s, k.tb.ext s, k.nt, fun a e => k.zh a (none_of fun o e1 => let ⟨e2, t⟩ := cut_of e1; cut_not e (s _ _ e2) t), k.len, fun i x e h1 h2 => (k.sl i x e h1 h2).mono (Same.refl _) fun p hx he => ⟨(k.mu (mu_of h1 h2 hx he)).1, fun o e => s _ _ e⟩, k.ds⟩
theorem NtF.upd {p : Addr} {o : HO} (h : NtF L F) (n : NoT L o) : NtF L (upd F p o) := fun a u e => by
  by_cases z : a = p
  · rw [z, upd_same] at e
    exact Option.some.inj e ▸ n
  · rw [upd_ne z] at e
    exact h a u e
/-- more that stays, of what nobody holds -/
theorem Ok.stay (k : Ok L Z F H σ env) (s : Same F F') (t : Same F' H) (n : ∀ i p, Mu σ env i p → F' p = none) (nt : NtF L F') : Ok L Z F' H σ env where
  fh := t
  tb := k.tb
  nt := nt
  zh := k.zh
  len := k.len
  sl := fun i x e h1 h2 => (k.sl i x e h1 h2).mono s fun p hx he => ⟨n i p (mu_of h1 h2 hx he), fun o e => e⟩
  ds := k.ds
/-- a new thing that stays -/
theorem Go.new (k : Ok L Z F H σ env) {p : Addr} {o : HO} (n : H p = none) (no : ∀ ps, o ≠ .tbl ps := by intro _ z; cases z) : Go L Z F H σ env (upd F p o) (upd H p o) σ env := by
  have g := Go.more k (same_upd (o := o) n)
  have nf := k.free n
  exact {
    ff := same_upd nf
    kp := g.kp
    fr := fun a u e _ _ => by rw [upd_ne (ne_of_none e n)]
    dm := g.dm
    mm := g.mm
    io := g.io
    ok := g.ok.stay (same_upd nf) (nt := k.nt.upd (.inr no)) (t := fun b u e => by
      by_cases h : b = p
      · subst h
        rw [upd_same] at e ⊢
        exact e
      · rw [upd_ne h] at e ⊢
        exact k.fh _ _ e) (n := fun i q m => by
      have : q ≠ p := fun z => by
        subst z
        exact k.nomu (cut_none n) i m
      rw [upd_ne this]
      exact (k.mu m).1) }
/-- our result, laid down for good -/
theorem Go.lay (g : Go L Z F H σ env F' H' σ' env') {p : Addr} {d : D} (ow : Own L F' H' p d) (nf : F' p = none) (nm : ∀ i, ¬ Mu σ' env' i p) (was : cutL L H p = none) :
    ∃ F'', Go L Z F H σ env F'' H' σ' env' ∧ Rep L F'' (.ref p) d ∧ Same F' F'' := by
  obtain ⟨o, ho, s, r⟩ := ow.lay nf
  refine ⟨upd F' p o, ⟨g.ff.trans s, g.kp, fun a u e t n => ?_, g.dm, g.mm, g.io, ?_⟩, r, s⟩
  · rw [upd_ne (fun z => by rw [z] at e; exact cut_not was e t)]
    exact g.fr a u e t n
  · refine g.ok.stay s (fun b u e => ?_) (fun i q m => ?_) (g.ok.nt.upd (ow.noT ho))
    · by_cases h : b = p
      · subst h
        rw [upd_same] at e
        cases e
        exact ho
      · rw [upd_ne h] at e
        exact g.ok.fh _ _ e
    · rw [upd_ne (fun z => nm i (by rw [← z]; exact m))]
      exact (g.ok.mu m).1
theorem io_set {y : Sl} {i j : Nat} {d : D} (n : ∀ d, y ≠ .io d) (e : (env.set i y)[j]? = some (.io d)) : env[j]? = some (.io d) ∧ j ≠ i := by
  by_cases hj : j = i
  · subst hj
    by_cases hi : j < env.length
    · rw [List.getElem?_set_self hi] at e
      exact absurd (Option.some.inj e) (n d)
    · rw [List.getElem?_eq_none (by rw [List.length_set]; omega)] at e
      cases e
  · rw [List.getElem?_set_ne (Ne.symm hj)] at e
    exact ⟨e, hj⟩
/-- a slot's own thing, laid down for good -/
theorem Go.layAt (k : Ok L Z F H σ env) {i : Nat} {d : D} (e : env[i]? = some (.own d)) : ∃ F' p, σ[i]? = some (some (.ref p)) ∧ Go L Z F H σ env F' H σ (env.set i (.dat d)) ∧ Rep L F' (.ref p) d := by
  obtain ⟨p, h1, h2, h3, m, _⟩ := k.mut (.inl e)
  obtain ⟨o, ho, s, r⟩ := h3.lay h2
  have hi : i < env.length := (List.getElem?_eq_some_iff.mp e).1
  have mu' : ∀ j q, Mu σ (env.set i (.dat d)) j q → Mu σ env j q ∧ j ≠ i := fun j q ⟨a, b⟩ => by
    by_cases hj : j = i
    · subst hj
      rw [List.getElem?_set_self hi] at b
      rcases b with ⟨_, b⟩ | ⟨_, b⟩ <;> cases b
    · rw [List.getElem?_set_ne (Ne.symm hj)] at b
      exact ⟨⟨a, b⟩, hj⟩
  have st : Same (upd F p o) H := fun b u e => by
    by_cases h : b = p
    · subst h
      rw [upd_same] at e
      cases e
      exact ho
    · rw [upd_ne h] at e
      exact k.fh _ _ e
  refine ⟨upd F p o, p, h1, ⟨s, fun a u e _ _ => e, fun a u e _ n => ?_, fun a u e t => ⟨u, e, t⟩, fun j a m => .inl ⟨j, (mu' j a m).1⟩, fun j d' e => ⟨rfl, d', (io_set (y := .dat d) (by intro _ z; cases z) e).1⟩,
    ⟨st, k.tb, k.nt.upd (h3.noT ho), k.zh, by rw [List.length_set]; exact k.len, fun j x y e1 e2 => ?_, fun j l q a b => k.ds j l q (mu' _ _ a).1 (mu' _ _ b).1⟩⟩, r⟩
  · rw [upd_ne (fun z => n i (by rw [z]; exact m))]
  · by_cases hj : j = i
    · subst hj
      rw [List.getElem?_set_self hi] at e2
      cases e2
      rw [h1] at e1
      cases e1
      exact r
    · rw [List.getElem?_set_ne (Ne.symm hj)] at e2
      refine (k.sl j x y e1 e2).mono s fun q hx he => ?_
      have mq := mu_of e1 e2 hx he
      rw [upd_ne (fun z => hj (k.ds j i p (by rw [← z]; exact mq) m))]
      exact ⟨(k.mu mq).1, fun o e => e⟩
theorem mu_set {i : Nat} {x : Option V} {y : Sl} {j : Nat} {q : Addr} (hi : i < σ.length) (hl : σ.length = env.length) (m : Mu (σ.set i x) (env.set i y) j q) : (j = i ∧ x = some (.ref q) ∧ ((∃ d, y = .own d) ∨ ∃ d, y = .io d)) ∨ (j ≠ i ∧ Mu σ env j q) := by
  obtain ⟨a, b⟩ := m
  by_cases hj : j = i
  · subst hj
    rw [List.getElem?_set_self hi] at a
    rw [List.getElem?_set_self (by omega)] at b
    refine .inl ⟨rfl, Option.some.inj a, ?_⟩
    rcases b with ⟨d, b⟩ | ⟨d, b⟩
    · exact .inl ⟨d, Option.some.inj b⟩
    · exact .inr ⟨d, Option.some.inj b⟩
  · rw [List.getElem?_set_ne (Ne.symm hj)] at a b
    exact .inr ⟨hj, a, b⟩
/-- a slot takes something that is no thing of ours -/
theorem Go.setSl (k : Ok L Z F H σ env) {i : Nat} {x : Option V} {y : Sl} (hi : i < σ.length) (n1 : ∀ d, y ≠ .own d) (n2 : ∀ d, y ≠ .io d) (r : SlR L Z F H x y) : Go L Z F H σ env F H (σ.set i x) (env.set i y) where
  ff := Same.refl _
  kp := fun _ _ e _ _ => e
  fr := fun _ _ _ _ _ => rfl
  dm := fun _ o e t => ⟨o, e, t⟩
  mm := fun j a m => .inl (by
    rcases mu_set hi k.len m with ⟨_, _, ⟨_, z⟩ | ⟨_, z⟩⟩ | ⟨_, m⟩
    · exact absurd z (n1 _)
    · exact absurd z (n2 _)
    · exact ⟨j, m⟩)
  io := fun j d e => let ⟨e1, hj⟩ := io_set n2 e; ⟨List.getElem?_set_ne (Ne.symm hj), d, e1⟩
  ok := ⟨k.fh, k.tb, k.nt, k.zh, by rw [List.length_set, List.length_set]; exact k.len, fun j x' y' e1 e2 => by
    by_cases hj : j = i
    · subst hj
      rw [List.getElem?_set_self hi] at e1
      rw [List.getElem?_set_self (by rw [← k.len]; exact hi)] at e2
      cases e1
      cases e2
      exact r
    · rw [List.getElem?_set_ne (Ne.symm hj)] at e1 e2
      exact k.sl j x' y' e1 e2, fun j l q a b => by
    rcases mu_set hi k.len a with ⟨_, _, ⟨_, z⟩ | ⟨_, z⟩⟩ | ⟨_, a⟩
    · exact absurd z (n1 _)
    · exact absurd z (n2 _)
    rcases mu_set hi k.len b with ⟨_, _, ⟨_, z⟩ | ⟨_, z⟩⟩ | ⟨_, b⟩
    · exact absurd z (n1 _)
    · exact absurd z (n2 _)
    exact k.ds j l q a b⟩
theorem Go.setDat (k : Ok L Z F H σ env) {i : Nat} {v : V} {d : D} (hi : i < σ.length) (r : Rep L F v d) : Go L Z F H σ env F H (σ.set i (some v)) (env.set i (.dat d)) := Go.setSl k hi (fun _ z => nomatch z) (fun _ z => nomatch z) r
theorem Go.setNo (k : Ok L Z F H σ env) {i : Nat} {x : Option V} (hi : i < σ.length) : Go L Z F H σ env F H (σ.set i x) (env.set i .no) := Go.setSl k hi (fun _ z => nomatch z) (fun _ z => nomatch z) (by cases x <;> trivial)
/-- a slot takes a thing of its own, new since, which nobody else holds -/
theorem Go.take (g : Go L Z F H σ env F' H' σ' env') {i : Nat} {p : Addr} {d : D} (hi : i < σ'.length) (ow : Own L F' H' p d) (nf : F' p = none) (nm : ∀ j, ¬ Mu σ' env' j p) (was : cutL L H p = none) (zp : Z p = none) :
    Go L Z F H σ env F' H' (σ'.set i (some (.ref p))) (env'.set i (.own d)) where
  ff := g.ff
  kp := g.kp
  fr := g.fr
  dm := g.dm
  mm := fun j a m => by
    rcases mu_set hi g.ok.len m with ⟨_, e, _⟩ | ⟨_, m⟩
    · cases e
      exact .inr was
    · exact g.mm j a m
  io := fun j d e => by
    obtain ⟨e1, hj⟩ := io_set (by intro _ z; cases z) e
    obtain ⟨a, b⟩ := g.io j d e1
    exact ⟨(List.getElem?_set_ne (Ne.symm hj)).trans a, b⟩
  ok := by
    have k := g.ok
    refine ⟨k.fh, k.tb, k.nt, k.zh, by rw [List.length_set, List.length_set]; exact k.len, fun j x y e1 e2 => ?_, fun j l q a b => ?_⟩
    · by_cases hj : j = i
      · subst hj
        rw [List.getElem?_set_self hi] at e1
        rw [List.getElem?_set_self (by rw [← k.len]; exact hi)] at e2
        cases e1
        cases e2
        exact ⟨p, rfl, nf, ow, zp⟩
      · rw [List.getElem?_set_ne (Ne.symm hj)] at e1 e2
        exact k.sl j x y e1 e2
    · rcases mu_set hi k.len a with ⟨ja, ea, _⟩ | ⟨na, a⟩
      · rcases mu_set hi k.len b with ⟨jb, _, _⟩ | ⟨nb, b⟩
        · rw [ja, jb]
        · cases ea
          exact absurd b (nm l)
      · rcases mu_set hi k.len b with ⟨jb, eb, _⟩ | ⟨nb, b⟩
        · cases eb
          exact absurd a (nm j)
        · exact k.ds j l q a b
def putSl : Sl → D → Sl
  | .io _, d => .io d
  | _, d => .own d
/-- a slot's thing is changed -/
theorem Go.put (k : Ok L Z F H σ env) {i : Nat} {p : Addr} {d d' : D} {y : Sl} {o : HO} (e : σ[i]? = some (some (.ref p))) (ey : env[i]? = some y) (hy : y = .own d ∨ y = .io d) (ow : Own L F (upd H p o) p d') :
    Go L Z F H σ env F (upd H p o) σ (env.set i (putSl y d')) := by
  have hi : i < env.length := (List.getElem?_eq_some_iff.mp ey).1
  have m : Mu σ env i p := mu_of e ey rfl (hy.imp (fun z => ⟨d, z⟩) fun z => ⟨d, z⟩)
  have nf := (k.mu m).1
  have hiσ : i < σ.length := by rw [k.len]; exact hi
  have yy : (y = .io d ∧ putSl y d' = .io d') ∨ (y = .own d ∧ putSl y d' = .own d') := by
    rcases hy with rfl | rfl
    · exact .inr ⟨rfl, rfl⟩
    · exact .inl ⟨rfl, rfl⟩
  have mu' : ∀ j q, Mu σ (env.set i (putSl y d')) j q → Mu σ env j q := fun j q m' => by
    obtain ⟨a, b⟩ := m'
    by_cases hj : j = i
    · subst hj
      rw [e] at a
      cases a
      exact m
    · rw [List.getElem?_set_ne (Ne.symm hj)] at b
      exact ⟨a, b⟩
  have nq : ∀ a, (∀ i, ¬ Mu σ env i a) → a ≠ p := fun a n z => n i (by rw [z]; exact m)
  refine ⟨Same.refl _, fun a u e _ n => by rw [upd_ne (nq a n)]; exact e, fun _ _ _ _ _ => rfl, fun a u e t => ?_, fun j a m' => .inl ⟨j, mu' j a m'⟩, fun j d2 e2 => ⟨rfl, ?_⟩,
    ⟨fun b u e => ?_, (let ⟨_, dd, ow0, _⟩ := k.mu m; Tb.upd k.tb ow0), k.nt, fun a ea => ?_, by rw [List.length_set]; exact k.len, fun j x z e1 e2 => ?_, fun j l q a b => k.ds j l q (mu' _ _ a) (mu' _ _ b)⟩⟩
  · by_cases h : a = p
    · exact ⟨o, by rw [h, upd_same], ow.noT upd_same⟩
    · exact ⟨u, by rw [upd_ne h]; exact e, t⟩
  · by_cases hj : j = i
    · subst hj
      rw [List.getElem?_set_self hi] at e2
      rcases yy with ⟨h1, h2⟩ | ⟨h1, h2⟩
      · exact ⟨d, by rw [ey, h1]⟩
      · rw [h2] at e2
        cases e2
    · rw [List.getElem?_set_ne (Ne.symm hj)] at e2
      exact ⟨d2, e2⟩
  · rw [upd_ne (fun z => by rw [z, nf] at e; cases e)]
    exact k.fh _ _ e
  · refine k.zh a (none_of fun u e1 => ?_)
    obtain ⟨e2, t⟩ := cut_of e1
    by_cases h : a = p
    · subst h
      exact cut_not ea upd_same (ow.noT upd_same)
    · exact cut_not ea (by rw [upd_ne h]; exact e2) t
  · by_cases hj : j = i
    · subst hj
      rw [List.getElem?_set_self hi] at e2
      rw [e] at e1
      cases e1
      cases e2
      rcases yy with ⟨h1, h2⟩ | ⟨h1, h2⟩
      · rw [h2]
        exact ⟨p, rfl, nf, ow⟩
      · rw [h2]
        have := k.sl j _ _ e ey
        rw [h1] at this
        obtain ⟨q, eq, _, _, zq⟩ := this
        cases eq
        exact ⟨p, rfl, nf, ow, zq⟩
    · rw [List.getElem?_set_ne (Ne.symm hj)] at e2
      refine (k.sl j x z e1 e2).mono (Same.refl _) fun q hx he => ?_
      have mq := mu_of e1 e2 hx he
      refine ⟨(k.mu mq).1, fun u eu => ?_⟩
      rw [upd_ne (fun z => hj (k.ds j i p (by rw [← z]; exact mq) m))]
      exact eu
end
end Pu

/-! # Pu3 -/
namespace Pu
open PySem PySem.Spec PyProof.Rows L2

/-! # what an expression comes to: a result and the slots behind it; an exception (its class, its fields); no word -/
inductive Rx (α : Type) where
  | ok (a : α) (env : Env') | er (c : Nat) (fs : List (Nat × D)) (env : Env') | no
def Rx.bind {α β : Type} (m : Rx α) (k : α → Env' → Rx β) : Rx β := match m with
  | .ok a env => k a env
  | .er c fs env => .er c fs env
  | .no => .no
def liftO {α : Type} (o : Option α) (env : Env') : Rx α := match o with
  | some a => .ok a env
  | none => .no
/-- how a result stands: the heap ahead, what stays, the heap, the slots, the value -/
structure Rl (β α : Type) where
  r : Hp → Hp → Hp → L2.St → Env' → β → α → Prop
  sh : ∀ {H H1 F' H' : Hp} {σ : L2.St} {env : Env'} {v : β} {d : α}, (∀ a, H1 a = none → H a = none) → r H1 F' H' σ env v d → r H F' H' σ env v d
section
variable (L : Lay)
def rDat : Rl V D := ⟨fun _ F' _ _ _ v d => Rep L F' v d, fun _ h => h⟩
def rOwn : Rl V D := ⟨fun H F' H' σ env v d => ∃ p, v = .ref p ∧ H p = none ∧ F' p = none ∧ Own L F' H' p d ∧ ∀ i, ¬ Mu σ env i p, fun n ⟨p, a, b, c⟩ => ⟨p, a, n p b, c⟩⟩
def rArg : Rl (List V) (List D) := ⟨fun _ F' _ _ _ v d => RepA L F' v d, fun _ h => h⟩
def rBool : Rl Bool Bool := ⟨fun _ _ _ _ _ v d => v = d, fun _ h => h⟩
/-- an operand: data, or a slot of ours -/
abbrev XD := D ⊕ Nat
def RelX (F' : Hp) (σ : L2.St) (v : V) : XD → Prop
  | .inl d => Rep L F' v d
  | .inr i => σ[i]? = some (some v)
def rOp : Rl V XD := ⟨fun _ F' _ σ _ v d => RelX L F' σ v d, fun _ h => h⟩
inductive RelXs (F' : Hp) (σ : L2.St) : List V → List XD → Prop
  | nil : RelXs F' σ [] []
  | cons {v : V} {d : XD} {vs : List V} {ds : List XD} (h : RelX L F' σ v d) (r : RelXs F' σ vs ds) : RelXs F' σ (v :: vs) (d :: ds)
def rOps : Rl (List V) (List XD) := ⟨fun _ F' _ σ _ v d => RelXs L F' σ v d, fun _ h => h⟩
end
/-- an exception's fields: those of its details, or none -/
def Det (H' : Hp) (o : Option Addr) (vs : List (Str × V)) : Prop := (∃ a, o = some a ∧ H' a = some (.xd vs)) ∨ (o = none ∧ vs = [])
def Post (L : Lay) (Z : Hp) (E : L2.St → XK) (σ : L2.St) (env : Env') (F H : Hp) {β α : Type} (rl : Rl β α) (Q : β → Hp → Prop) : Rx α → Prop
  | .ok d env' => ∀ v F' H', Go L Z F H σ env F' H' σ env' → rl.r (cutL L H) F' H' σ env' v d → Q v H'
  | .er c fs env' => ∀ C a F' H' vs, L.xcs[c]? = some C → Go L Z F H σ env F' H' σ env' → Det H' a vs → RepF L F' vs fs → E σ (.ref C) a H'
  | .no => False
/-- a reading is had by what the meaning says -/
def Im (L : Lay) (E : L2.St → XK) {β α : Type} (rl : Rl β α) (t : L2.St → Hp → (β → Hp → Prop) → Prop) (m : Env' → Rx α) : Prop :=
  ∀ (Z : Hp) (σ : L2.St) (env : Env') (F H : Hp) (Q : β → Hp → Prop), Ok L Z F H σ env → Post L Z E σ env F H rl Q (m env) → t σ H Q
section
variable {L : Lay} {E : L2.St → XK} {σ : L2.St} {env env1 : Env'} {Z F H F1 H1 : Hp} {α β γ δ : Type} {rl : Rl β α} {rl2 : Rl δ γ}
theorem Post.from (g : Go L Z F H σ env F1 H1 σ env1) {Q : β → Hp → Prop} {m : Rx α} (h : Post L Z E σ env F H rl Q m) : Post L Z E σ env1 F1 H1 rl Q m := by
  cases m with
  | ok d env' => exact fun v F' H' g' r => h v F' H' (g.trans g') (rl.sh (fun a => g.dn) r)
  | er c fs env' => exact fun C a F' H' vs e g' r1 r2 => h C a F' H' vs e (g.trans g') r1 r2
  | no => exact h
theorem Post.bind {Q : δ → Hp → Prop} {W : β → Hp → Prop} {m : Rx α} {k : α → Env' → Rx γ} (h : Post L Z E σ env F H rl2 Q (m.bind k))
    (hk : ∀ d env1 v F1 H1, Go L Z F H σ env F1 H1 σ env1 → rl.r (cutL L H) F1 H1 σ env1 v d → Post L Z E σ env1 F1 H1 rl2 Q (k d env1) → W v H1) : Post L Z E σ env F H rl W m := by
  cases m with
  | ok d env' => exact fun v F' H' g r => hk d env' v F' H' g r (Post.from g h)
  | er c fs env' => exact h
  | no => exact h
/-- .. that keeps the word from the start on -/
theorem Post.bindAt {Q : δ → Hp → Prop} {W : β → Hp → Prop} {m : Rx α} {k : α → Env' → Rx γ} (g : Go L Z F H σ env F1 H1 σ env1) (h : Post L Z E σ env F H rl2 Q (m.bind k))
    (hk : ∀ d env2 v F2 H2, Go L Z F1 H1 σ env1 F2 H2 σ env2 → rl.r (cutL L H1) F2 H2 σ env2 v d → Post L Z E σ env F H rl2 Q (k d env2) → W v H2) : Post L Z E σ env1 F1 H1 rl W m := by
  cases m with
  | ok d env' => exact fun v F' H' g r => hk d env' v F' H' g r h
  | er c fs env' => exact fun C a F' H' vs e g' r1 r2 => h C a F' H' vs e (g.trans g') r1 r2
  | no => exact h
theorem Post.some {Q : β → Hp → Prop} {o : Option α} (h : Post L Z E σ env F H rl Q (liftO o env)) : ∃ d, o = .some d ∧ ∀ v F' H', Go L Z F H σ env F' H' σ env → rl.r (cutL L H) F' H' σ env v d → Q v H' := by
  cases o with
  | none => exact h.elim
  | some d => exact ⟨d, rfl, h⟩
theorem RelX.mono {σ : L2.St} {v : V} {x : XD} (h : RelX L F σ v x) (e : Same F F1) : RelX L F1 σ v x := by
  cases x with
  | inl d => exact Rep.mono e h
  | inr i => exact h
theorem RelXs.mono {σ : L2.St} (e : Same F F1) : ∀ {v : List V} {x : List XD}, RelXs L F σ v x → RelXs L F1 σ v x
  | _, _, .nil => .nil
  | _, _, .cons h r => .cons (h.mono e) (r.mono e)
def deref (env : Env') : XD → Option D
  | .inl d => some d
  | .inr i => match env[i]? with
    | some (.dat d) => some d
    | some (.own d) => some d
    | some (.io d) => some d
    | _ => none
theorem RelX.top (k : Ok L Z F H σ env) {v : V} {x : XD} {d : D} (h : RelX L F σ v x) (e : deref env x = some d) : Top L F H v d := by
  cases x with
  | inl d' =>
    cases e
    exact Rep.top h k.fh
  | inr i =>
    have h' : σ[i]? = some (some v) := h
    cases q : env[i]? with
    | none => simp [deref, q] at e
    | some y =>
      have s := k.sl i _ _ h' q
      cases y with
      | no => simp [deref, q] at e
      | dat d' =>
        simp [deref, q] at e
        subst e
        exact Rep.top s k.fh
      | own d' =>
        simp [deref, q] at e
        subst e
        obtain ⟨p, rfl, _, o, _⟩ := s
        exact o.top
      | io d' =>
        simp [deref, q] at e
        subst e
        obtain ⟨p, rfl, _, o⟩ := s
        exact o.top
end

/-! ## the judgements -/
abbrev Me := Env' → Rx D
abbrev Mx := Env' → Rx XD
abbrev Ma := Env' → Rx (List D)
abbrev Mxs := Env' → Rx (List XD)
abbrev Mt := Env' → Rx Bool
def ImE (L : Lay) (E : L2.St → XK) (X : Cx) (e : Expr) (m : Me) : Prop := ∃ t, PE X e t ∧ Im L E (rDat L) t m
def ImO (L : Lay) (E : L2.St → XK) (X : Cx) (e : Expr) (m : Me) : Prop := ∃ t, PE X e t ∧ Im L E (rOwn L) t m
def ImX (L : Lay) (E : L2.St → XK) (X : Cx) (e : Expr) (m : Mx) : Prop := ∃ t, PE X e t ∧ Im L E (rOp L) t m
def ImA (L : Lay) (E : L2.St → XK) (X : Cx) (es : List Expr) (m : Ma) : Prop := ∃ t, PA X es t ∧ Im L E (rArg L) t m
def ImXs (L : Lay) (E : L2.St → XK) (X : Cx) (es : List Expr) (m : Mxs) : Prop := ∃ t, PA X es t ∧ Im L E (rOps L) t m
def ImT (L : Lay) (E : L2.St → XK) (X : Cx) (e : Expr) (m : Mt) : Prop := ∃ t, PT X e t ∧ Im L E rBool t m
section
variable {L : Lay} {E : L2.St → XK} {X : Cx} {e a b c : Expr} {es : List Expr} {m ma mb : Me} {pos : Pos}
def mC (d : D) : Me := fun env => .ok d env
def mVar (i : Nat) : Me := fun env => match env[i]? with
  | some (.dat d) => .ok d env
  | _ => .no
def mFrz (i : Nat) : Me := fun env => match env[i]? with
  | some (.dat d) => .ok d env
  | some (.own d) => .ok d (env.set i (.dat d))
  | _ => .no
def xVar (i : Nat) : Mx := fun env => match env[i]? with
  | some (.dat _) => .ok (.inr i) env
  | some (.own _) => .ok (.inr i) env
  | some (.io _) => .ok (.inr i) env
  | _ => .no
def xE (m : Me) : Mx := fun env => (m env).bind fun d env1 => .ok (.inl d) env1
theorem imC {v : V} {d : D} (hv : PE X e (tC v)) (r : ∀ F, Rep L F v d) : ImE L E X e (mC d) := ⟨_, hv, fun Z σ env F H Q k h => h v F H (Go.refl k) (r F)⟩
theorem imE_int {i j pos} : ImE L E X (.Constant (.int i) j pos) (mC (.int i)) := imC pe_int fun _ => .int _
theorem imE_bl {i j pos} : ImE L E X (.Constant (.bool i) j pos) (mC (.bl i)) := imC pe_bl fun _ => .bl _
theorem imE_non {j pos} : ImE L E X (.Constant .none j pos) (mC .non) := imC pe_non fun _ => .non
theorem imE_str {s j pos} : ImE L E X (.Constant (.str s) j pos) (mC (.str s)) := imC pe_str fun _ => .str _
theorem imE_var (i : Nat) {x : Str} (hN : X.N[i]? = some x := by rfl) (hv : Vis X.env.scope x := by first | exact Or.inl rfl | exact Or.inr (Or.inl rfl) | exact Or.inr (Or.inr rfl)) (hd : (x == ("__debug__" : Str)) = false := by decide)
    (hcd : (x == ("__classdict__" : Str)) = false := by decide) : ImE L E X (.Name x pos) (mVar i) := by
  refine ⟨_, pe_var hN hv hd hcd, fun Z σ env F H Q k h => ?_⟩
  unfold mVar at h
  cases q : env[i]? with
  | none => rw [q] at h; exact h.elim
  | some y =>
    cases y with
    | dat d =>
      rw [q] at h
      obtain ⟨v, e1, r⟩ := k.dat q
      exact ⟨v, e1, h v F H (Go.refl k) r⟩
    | _ => rw [q] at h; exact h.elim
theorem imE_frz (i : Nat) {x : Str} (hN : X.N[i]? = some x := by rfl) (hv : Vis X.env.scope x := by first | exact Or.inl rfl | exact Or.inr (Or.inl rfl) | exact Or.inr (Or.inr rfl)) (hd : (x == ("__debug__" : Str)) = false := by decide)
    (hcd : (x == ("__classdict__" : Str)) = false := by decide) : ImE L E X (.Name x pos) (mFrz i) := by
  refine ⟨_, pe_var hN hv hd hcd, fun Z σ env F H Q k h => ?_⟩
  unfold mFrz at h
  cases q : env[i]? with
  | none => rw [q] at h; exact h.elim
  | some y =>
    cases y with
    | dat d =>
      rw [q] at h
      obtain ⟨v, e1, r⟩ := k.dat q
      exact ⟨v, e1, h v F H (Go.refl k) r⟩
    | own d =>
      rw [q] at h
      obtain ⟨F', p, e1, g, r⟩ := Go.layAt k q
      exact ⟨_, e1, h _ F' H g r⟩
    | _ => rw [q] at h; exact h.elim
theorem imX_var (i : Nat) {x : Str} (hN : X.N[i]? = some x := by rfl) (hv : Vis X.env.scope x := by first | exact Or.inl rfl | exact Or.inr (Or.inl rfl) | exact Or.inr (Or.inr rfl)) (hd : (x == ("__debug__" : Str)) = false := by decide)
    (hcd : (x == ("__classdict__" : Str)) = false := by decide) : ImX L E X (.Name x pos) (xVar i) := by
  refine ⟨_, pe_var hN hv hd hcd, fun Z σ env F H Q k h => ?_⟩
  unfold xVar at h
  cases q : env[i]? with
  | none => rw [q] at h; exact h.elim
  | some y =>
    cases y with
    | no => rw [q] at h; exact h.elim
    | dat d =>
      rw [q] at h
      obtain ⟨v, e1, r⟩ := k.dat q
      exact ⟨v, e1, h v F H (Go.refl k) e1⟩
    | own d =>
      rw [q] at h
      obtain ⟨p, e1, _⟩ := k.mut (.inl q)
      exact ⟨_, e1, h _ F H (Go.refl k) e1⟩
    | io d =>
      rw [q] at h
      obtain ⟨p, e1, _⟩ := k.mut (.inr q)
      exact ⟨_, e1, h _ F H (Go.refl k) e1⟩
theorem imX (h : ImE L E X e m) : ImX L E X e (xE m) := by
  obtain ⟨t, p, i⟩ := h
  refine ⟨t, p, fun Z σ env F H Q k h => i Z σ env F H Q k (Post.bind h fun d env1 v F1 H1 g r h => ?_)⟩
  exact h v F1 H1 (Go.refl g.ok) r
theorem imE_of (h : ImO L E X e m) : ImE L E X e m := by
  obtain ⟨t, p, i⟩ := h
  refine ⟨t, p, fun Z σ env F H Q k h => i Z σ env F H Q k ?_⟩
  cases q : m env with
  | ok d env' =>
    rw [q] at h
    rintro v F' H' g ⟨p, rfl, n, nf, ow, nm⟩
    obtain ⟨F'', g', r, _⟩ := g.lay ow nf nm n
    exact h _ F'' H' g' r
  | er c fs env' => rw [q] at h; exact h
  | no => rw [q] at h; exact h
/-! ### in a row -/
def aNil : Ma := fun env => .ok [] env
def aCons (m : Me) (r : Ma) : Ma := fun env => (m env).bind fun d env1 => (r env1).bind fun ds env2 => .ok (d :: ds) env2
def xsNil : Mxs := fun env => .ok [] env
def xsCons (m : Mx) (r : Mxs) : Mxs := fun env => (m env).bind fun d env1 => (r env1).bind fun ds env2 => .ok (d :: ds) env2
theorem imA_nil : ImA L E X [] aNil := ⟨_, pa_nil, fun Z σ env F H Q k h => h [] F H (Go.refl k) .nil⟩
theorem imA_cons {r : Ma} (h : ImE L E X e m) (hr : ImA L E X es r) (hs : starEach (e :: es) X.env = (false, eval e X.env) :: starEach es X.env := by rfl) : ImA L E X (e :: es) (aCons m r) := by
  obtain ⟨t, p, i⟩ := h
  obtain ⟨u, q, j⟩ := hr
  refine ⟨_, pa_cons p q hs, fun Z σ env F H Q k h => i Z σ env F H _ k (Post.bind h fun d env1 v F1 H1 g rv h => ?_)⟩
  refine j Z σ env1 F1 H1 _ g.ok (Post.bind h fun ds env2 vs F2 H2 g2 rs h => ?_)
  exact h (v :: vs) F2 H2 (Go.refl g2.ok) (.cons (rv.mono g2.ff) rs)
theorem imXs_nil : ImXs L E X [] xsNil := ⟨_, pa_nil, fun Z σ env F H Q k h => h [] F H (Go.refl k) .nil⟩
theorem imXs_cons {m : Mx} {r : Mxs} (h : ImX L E X e m) (hr : ImXs L E X es r) (hs : starEach (e :: es) X.env = (false, eval e X.env) :: starEach es X.env := by rfl) : ImXs L E X (e :: es) (xsCons m r) := by
  obtain ⟨t, p, i⟩ := h
  obtain ⟨u, q, j⟩ := hr
  refine ⟨_, pa_cons p q hs, fun Z σ env F H Q k h => i Z σ env F H _ k (Post.bind h fun d env1 v F1 H1 g rv h => ?_)⟩
  refine j Z σ env1 F1 H1 _ g.ok (Post.bind h fun ds env2 vs F2 H2 g2 rs h => ?_)
  exact h (v :: vs) F2 H2 (Go.refl g2.ok) (.cons (RelX.mono rv g2.ff) rs)
/-! ### displays -/
def mLst (a : Ma) : Me := fun env => (a env).bind fun ds env1 => if ds.length ≤ sizeLine then .ok (.lst ds) env1 else .no
def mTup (a : Ma) : Me := fun env => (a env).bind fun ds env1 => if ds.length ≤ sizeLine then .ok (.tup ds) env1 else .no
theorem imO_lst {r : Ma} (h : ImA L E X es r) : ImO L E X (.List es pos) (mLst r) := by
  obtain ⟨t, p, i⟩ := h
  refine ⟨_, pe_lst p, fun Z σ env F H Q k h => i Z σ env F H _ k (Post.bind h fun ds env1 vs F1 H1 g rv h => ?_)⟩
  by_cases hz : ds.length ≤ sizeLine
  · rw [if_pos hz] at h
    have rv : RepA L F1 vs ds := rv
    refine ⟨by rw [rv.length]; exact hz, fun l hl => h _ F1 (upd H1 l (.lst vs)) (Go.more g.ok (same_upd hl)) ⟨l, rfl, cut_none hl, g.ok.free hl, ⟨vs, upd_same, rv⟩, g.ok.nomu (cut_none hl)⟩⟩
  · rw [if_neg hz] at h
    exact h.elim
theorem imE_tup {r : Ma} {x1} (h : ImA L E X es r) : ImE L E X (.Tuple es x1 pos) (mTup r) := by
  obtain ⟨t, p, i⟩ := h
  refine ⟨_, pe_tup p, fun Z σ env F H Q k h => i Z σ env F H _ k (Post.bind h fun ds env1 vs F1 H1 g rv h => ?_)⟩
  by_cases hz : ds.length ≤ sizeLine
  · rw [if_pos hz] at h
    have rv : RepA L F1 vs ds := rv
    refine ⟨by rw [rv.length]; exact hz, fun l hl => h _ (upd F1 l (.tup vs)) (upd H1 l (.tup vs)) (Go.new g.ok hl) (.tup upd_same (rv.mono (same_upd (g.ok.free hl))))⟩
  · rw [if_neg hz] at h
    exact h.elim
/-! ### operators -/
/-- what comes of values that are read: the heap as it was, or one new thing that stays -/
inductive Nu (L : Lay) (F H : Hp) : Hp → Hp → V → D → Prop
  | here {v : V} {d : D} (r : Rep L F v d) : Nu L F H F H v d
  | new {p : Addr} {o : HO} {d : D} (n : H p = none) (r : Rep L (upd F p o) (.ref p) d) (no : ∀ ps, o ≠ .tbl ps := by intro _ z; cases z) : Nu L F H (upd F p o) (upd H p o) (.ref p) d
theorem Nu.go {σ : L2.St} {env : Env'} {Z F H F' H' : Hp} {v : V} {d : D} (n : Nu L F H F' H' v d) (k : Ok L Z F H σ env) : Go L Z F H σ env F' H' σ env ∧ Rep L F' v d := by
  cases n with
  | here r => exact ⟨Go.refl k, r⟩
  | new n r no => exact ⟨Go.new k n no, r⟩
/-- an operator by its meaning on data -/
def OpD (L : Lay) (X : Cx) (f : Value → Value → Sem Value) (g : D → D → Option D) : Prop := ∃ r : R2, OpR X f r ∧ ∀ (F H : Hp) (x y : V) (dx dy d : D) (Q : VK), Same F H → Top L F H x dx → Top L F H y dy → g dx dy = some d → (∀ v F' H', Nu L F H F' H' v d → Q v H') → r x y H Q
/-- .. that makes a thing of ours -/
def OpO (L : Lay) (X : Cx) (f : Value → Value → Sem Value) (g : D → D → Option D) : Prop := ∃ r : R2, OpR X f r ∧ ∀ (F H : Hp) (x y : V) (dx dy d : D) (Q : VK), Same F H → Top L F H x dx → Top L F H y dy → g dx dy = some d → (∀ p o, H p = none → Own L F (upd H p o) p d → Q (.ref p) (upd H p o)) → r x y H Q
def UnD (L : Lay) (X : Cx) (f : Value → Sem Value) (g : D → Option D) : Prop := ∃ r : V → Hp → VK → Prop, UnR X f r ∧ ∀ (F H : Hp) (x : V) (dx d : D) (Q : VK), Same F H → Top L F H x dx → g dx = some d → (∀ v F' H', Nu L F H F' H' v d → Q v H') → r x H Q
def mBin (g : D → D → Option D) (ma mb : Mx) : Me := fun env => (ma env).bind fun x env1 => (mb env1).bind fun y env2 => match deref env2 x, deref env2 y with
  | some dx, some dy => liftO (g dx dy) env2
  | _, _ => .no
def mUn (g : D → Option D) (ma : Mx) : Me := fun env => (ma env).bind fun x env1 => match deref env1 x with
  | some dx => liftO (g dx) env1
  | _ => .no
section
variable {ma mb : Mx}
theorem bin_in {r : R2} {g : D → D → Option D} {rl : Rl V D} {ta tb : TE} (ia : Im L E (rOp L) ta ma) (ib : Im L E (rOp L) tb mb) {σ : L2.St} {env : Env'} {Z F H : Hp} {Q : VK} (k : Ok L Z F H σ env) (h : Post L Z E σ env F H rl Q (mBin g ma mb env))
    (hr : ∀ (env2 : Env') (F2 H2 : Hp) (x y : V) (dx dy d : D), Ok L Z F2 H2 σ env2 → Top L F2 H2 x dx → Top L F2 H2 y dy → g dx dy = some d → (∀ v F' H', Go L Z F2 H2 σ env2 F' H' σ env2 → rl.r (cutL L H2) F' H' σ env2 v d → Q v H') → r x y H2 Q) : tOp r ta tb σ H Q := by
  refine ia Z σ env F H _ k (Post.bind h fun x env1 v F1 H1 g1 rv h => ?_)
  refine ib Z σ env1 F1 H1 _ g1.ok (Post.bind h fun y env2 u F2 H2 g2 ru h => ?_)
  cases ex : deref env2 x with
  | none => rw [ex] at h; exact h.elim
  | some dx =>
    cases ey : deref env2 y with
    | none => rw [ex, ey] at h; exact h.elim
    | some dy =>
      rw [ex, ey] at h
      obtain ⟨d, eg, w⟩ := Post.some h
      exact hr env2 F2 H2 v u dx dy d g2.ok (RelX.top g2.ok (RelX.mono rv g2.ff) ex) (RelX.top g2.ok ru ey) eg w
theorem imE_bin {op : Operator} {g : D → D → Option D} (o : OpD L X (binaryOp op) g) (ha : ImX L E X a ma) (hb : ImX L E X b mb) : ImE L E X (.BinOp a op b pos) (mBin g ma mb) := by
  obtain ⟨r, ho, hr⟩ := o
  obtain ⟨ta, pa, ia⟩ := ha
  obtain ⟨tb, pb, ib⟩ := hb
  refine ⟨_, pe_op ho pa pb, fun Z σ env F H Q k h => bin_in ia ib k h fun env2 F2 H2 x y dx dy d k2 tx ty eg w => ?_⟩
  exact hr F2 H2 x y dx dy d Q k2.fh tx ty eg fun v F' H' n => w v F' H' (n.go k2).1 (n.go k2).2
theorem imO_bin {op : Operator} {g : D → D → Option D} (o : OpO L X (binaryOp op) g) (ha : ImX L E X a ma) (hb : ImX L E X b mb) : ImO L E X (.BinOp a op b pos) (mBin g ma mb) := by
  obtain ⟨r, ho, hr⟩ := o
  obtain ⟨ta, pa, ia⟩ := ha
  obtain ⟨tb, pb, ib⟩ := hb
  refine ⟨_, pe_op ho pa pb, fun Z σ env F H Q k h => bin_in ia ib k h fun env2 F2 H2 x y dx dy d k2 tx ty eg w => ?_⟩
  exact hr F2 H2 x y dx dy d Q k2.fh tx ty eg fun p o n ow => w _ F2 _ (Go.more k2 (same_upd n)) ⟨p, rfl, cut_none n, k2.free n, ow, k2.nomu (cut_none n)⟩
theorem imE_un {op : UnaryOp} {g : D → Option D} (o : UnD L X (unaryOp op) g) (ha : ImX L E X a ma) : ImE L E X (.UnaryOp op a pos) (mUn g ma) := by
  obtain ⟨r, ho, hr⟩ := o
  obtain ⟨ta, pa, ia⟩ := ha
  refine ⟨_, pe_un ho pa, fun Z σ env F H Q k h => ia Z σ env F H _ k (Post.bind h fun x env1 v F1 H1 g1 rv h => ?_)⟩
  cases ex : deref env1 x with
  | none => rw [ex] at h; exact h.elim
  | some dx =>
    rw [ex] at h
    obtain ⟨d, eg, w⟩ := Post.some h
    exact hr F1 H1 v dx d Q g1.ok.fh (RelX.top g1.ok rv ex) eg fun u F' H' n => w u F' H' (n.go g1.ok).1 (n.go g1.ok).2
theorem imE_cmp {op : CmpOp} {g : D → D → Option D} (o : OpD L X (compareOp op) g) (ha : ImX L E X a ma) (hb : ImX L E X b mb) (hm : behindInMarks op b = false := by first | exact nomark _ | rfl) : ImE L E X (.Compare a [op] [b] pos) (mBin g ma mb) := by
  obtain ⟨r, ho, hr⟩ := o
  obtain ⟨ta, pa, ia⟩ := ha
  obtain ⟨tb, pb, ib⟩ := hb
  refine ⟨_, pe_cmpR ho pa pb hm, fun Z σ env F H Q k h => bin_in ia ib k h fun env2 F2 H2 x y dx dy d k2 tx ty eg w => ?_⟩
  exact hr F2 H2 x y dx dy d Q k2.fh tx ty eg fun v F' H' n => w v F' H' (n.go k2).1 (n.go k2).2
end
/-! ### tests -/
def asB : D → Option Bool
  | .bl b => some b
  | _ => none
/-- a value that is True or False, as a test -/
def mTst (m : Me) : Mt := fun env => (m env).bind fun d env1 => liftO (asB d) env1
theorem tst_in {t : TE} (i : Im L E (rDat L) t m) : Im L E rBool (tTest t) (mTst m) := fun Z σ env F H Q k h => by
  refine i Z σ env F H _ k (Post.bind h fun d env1 v F1 H1 g r h => ?_)
  obtain ⟨b, eb, w⟩ := Post.some h
  cases d with
  | bl c =>
    cases eb
    cases r
    exact ⟨_, rfl, w _ F1 H1 (Go.refl g.ok) rfl⟩
  | _ => cases eb
theorem imT_cmp {op : CmpOp} {g : D → D → Option D} {ma mb : Mx} (o : OpD L X (compareOp op) g) (ha : ImX L E X a ma) (hb : ImX L E X b mb) (hm : behindInMarks op b = false := by first | exact nomark _ | rfl) : ImT L E X (.Compare a [op] [b] pos) (mTst (mBin g ma mb)) := by
  obtain ⟨r, ho, hr⟩ := o
  obtain ⟨ta, pa, ia⟩ := ha
  obtain ⟨tb, pb, ib⟩ := hb
  refine ⟨_, pt_cmpR ho pa pb hm, tst_in fun Z σ env F H Q k h => bin_in ia ib k h fun env2 F2 H2 x y dx dy d k2 tx ty eg w => ?_⟩
  exact hr F2 H2 x y dx dy d Q k2.fh tx ty eg fun v F' H' n => w v F' H' (n.go k2).1 (n.go k2).2
theorem imT_val (h : ImE L E X e m) (he : ∀ whole, isTrue e X.env whole = (do let v ← whole; standAt e.pos; holding [v] (truthy v)) := by intro _; rfl) : ImT L E X e (mTst m) := by
  obtain ⟨t, p, i⟩ := h
  exact ⟨_, pt_val p he, tst_in i⟩
def tNt (m : Mt) : Mt := fun env => (m env).bind fun b env1 => .ok (!b) env1
theorem imT_not {m : Mt} (h : ImT L E X a m) : ImT L E X (.UnaryOp .Not a pos) (tNt m) := by
  obtain ⟨t, p, i⟩ := h
  refine ⟨_, pt_not p, fun Z σ env F H Q k h => i Z σ env F H _ k (Post.bind h fun d env1 v F1 H1 g r h => ?_)⟩
  have r : v = d := r
  subst r
  exact h _ F1 H1 (Go.refl g.ok) rfl
def tAn (m n : Mt) : Mt := fun env => (m env).bind fun b env1 => if b = true then n env1 else .ok false env1
def tOrr (m n : Mt) : Mt := fun env => (m env).bind fun b env1 => if b = true then .ok true env1 else n env1
def ImW (L : Lay) (E : L2.St → XK) (X : Cx) (e : Expr) (m : Mt) : Prop := ∃ t, PW X e t ∧ Im L E rBool t m
theorem ImW.t {m : Mt} (h : ImW L E X e m) : ImT L E X e m := let ⟨t, p, i⟩ := h; ⟨t, p.pt, i⟩
theorem imW_and1 {m : Mt} (h : ImT L E X a m) : ImW L E X (.BoolOp .And [a] pos) m := let ⟨t, p, i⟩ := h; ⟨_, pw_and1 p, i⟩
theorem imW_or1 {m : Mt} (h : ImT L E X a m) : ImW L E X (.BoolOp .Or [a] pos) m := let ⟨t, p, i⟩ := h; ⟨_, pw_or1 p, i⟩
theorem imW_and {m n : Mt} (h : ImT L E X a m) (h2 : ImW L E X (.BoolOp .And (b :: es) pos) n) : ImW L E X (.BoolOp .And (a :: b :: es) pos) (tAn m n) := by
  obtain ⟨t, p, i⟩ := h
  obtain ⟨u, q, j⟩ := h2
  refine ⟨_, pw_and p q, fun Z σ env F H Q k h => i Z σ env F H _ k (Post.bind h fun d env1 v F1 H1 g r h => ?_)⟩
  have r : v = d := r
  subst r
  cases v with
  | true => exact j Z σ env1 F1 H1 Q g.ok h
  | false => exact h _ F1 H1 (Go.refl g.ok) rfl
theorem imW_or {m n : Mt} (h : ImT L E X a m) (h2 : ImW L E X (.BoolOp .Or (b :: es) pos) n) : ImW L E X (.BoolOp .Or (a :: b :: es) pos) (tOrr m n) := by
  obtain ⟨t, p, i⟩ := h
  obtain ⟨u, q, j⟩ := h2
  refine ⟨_, pw_or p q, fun Z σ env F H Q k h => i Z σ env F H _ k (Post.bind h fun d env1 v F1 H1 g r h => ?_)⟩
  have r : v = d := r
  subst r
  cases v with
  | false => exact j Z σ env1 F1 H1 Q g.ok h
  | true => exact h _ F1 H1 (Go.refl g.ok) rfl
/-- and, or, not as values, of True and False -/
def vAn (m n : Me) : Me := fun env => (m env).bind fun d env1 => match asB d with
  | some true => n env1
  | some false => .ok (.bl false) env1
  | none => .no
def vOr (m n : Me) : Me := fun env => (m env).bind fun d env1 => match asB d with
  | some true => .ok (.bl true) env1
  | some false => n env1
  | none => .no
def vNt (m : Me) : Me := fun env => (m env).bind fun d env1 => match asB d with
  | some b => .ok (.bl (!b)) env1
  | none => .no
theorem imE_one {op} (h : ImE L E X a m) : ImE L E X (.BoolOp op [a] pos) m := let ⟨t, p, i⟩ := h; ⟨_, pe_one p, i⟩
theorem imE_and {n : Me} (h : ImE L E X a m) (h2 : ImE L E X (.BoolOp .And (b :: es) pos) n) : ImE L E X (.BoolOp .And (a :: b :: es) pos) (vAn m n) := by
  obtain ⟨t, p, i⟩ := h
  obtain ⟨u, q, j⟩ := h2
  refine ⟨_, pe_and p q, fun Z σ env F H Q k h => i Z σ env F H _ k (Post.bind h fun d env1 v F1 H1 g r h => ?_)⟩
  cases d with
  | bl c =>
    cases r
    refine ⟨c, rfl, ?_⟩
    cases c with
    | true => exact iteT (j Z σ env1 F1 H1 Q g.ok h)
    | false => exact iteF (h _ F1 H1 (Go.refl g.ok) (.bl _))
  | _ => exact h.elim
theorem imE_not (h : ImE L E X a m) : ImE L E X (.UnaryOp .Not a pos) (vNt m) := by
  obtain ⟨t, p, i⟩ := h
  refine ⟨_, pe_not p, fun Z σ env F H Q k h => i Z σ env F H _ k (Post.bind h fun d env1 v F1 H1 g r h => ?_)⟩
  cases d with
  | bl c =>
    cases r
    exact ⟨c, rfl, h _ F1 H1 (Go.refl g.ok) (.bl _)⟩
  | _ => exact h.elim
/-- a if t else b -/
def mIf {α : Type} (t : Mt) (ma mb : Env' → Rx α) : Env' → Rx α := fun env => (t env).bind fun b env1 => if b = true then ma env1 else mb env1
theorem if_in {rl : Rl V δ'} {t : TT} {ta tb : TE} {mt : Mt} {ma mb : Env' → Rx δ'} (i : Im L E rBool t mt) (ia : Im L E rl ta ma) (ib : Im L E rl tb mb) : Im L E rl (tIf t ta tb) (mIf mt ma mb) := fun Z σ env F H Q k h => by
  refine i Z σ env F H _ k (Post.bind h fun d env1 v F1 H1 g r h => ?_)
  have r : v = d := r
  subst r
  cases v with
  | true => exact iteT (ia Z σ env1 F1 H1 Q g.ok h)
  | false => exact iteF (ib Z σ env1 F1 H1 Q g.ok h)
theorem imE_if {mt : Mt} (h : ImT L E X c mt) (ha : ImE L E X a ma) (hb : ImE L E X b mb) : ImE L E X (.IfExp c a b pos) (mIf mt ma mb) := by
  obtain ⟨t, p, i⟩ := h
  obtain ⟨ta, pa, ia⟩ := ha
  obtain ⟨tb, pb, ib⟩ := hb
  exact ⟨_, pe_ifExp p pa pb, if_in i ia ib⟩
end
end Pu

/-! # Pu4 -/
namespace Pu
open PySem PySem.Spec PyProof.Rows L2

/-! # data as the library's own -/
mutual
def toPy : D → Option PyData
  | .non => some .none
  | .bl b => some (.bool b)
  | .int i => some (.int i)
  | .str s => some (.str s)
  | .lst l => (toPyA l).map .list
  | .tup l => (toPyA l).map .tuple
  | .ctp l => (toPyA l).map .tuple
  | .tl _ l => (toPyA l).map .list
  | _ => none
def toPyA : List D → Option (List PyData)
  | [] => some []
  | d :: ds => match toPy d, toPyA ds with
    | some p, some ps => some (p :: ps)
    | _, _ => none
end
section
variable {L : Lay} {F H : Hp}
mutual
theorem Rep.dp : ∀ (d : D) (v : V) (p : PyData), Rep L F v d → toPy d = some p → Dp L.K F v p
  | .non, _, _, r, h => by cases r; cases h; exact .non
  | .bl b, _, _, r, h => by cases r; cases h; exact .bl b
  | .int i, _, _, r, h => by cases r; cases h; exact .int i
  | .str s, _, _, r, h => by cases r; cases h; exact .str s
  | .lst ds, v, p, r, h => by
    cases r with
    | lst e r =>
      rw [toPy] at h
      cases q : toPyA ds with
      | none => rw [q] at h; cases h
      | some ps =>
        rw [q] at h
        cases h
        exact .lst (SqL.of e) (RepA.dp ds _ _ r q)
  | .tup ds, v, p, r, h => by
    cases r with
    | tup e r =>
      rw [toPy] at h
      cases q : toPyA ds with
      | none => rw [q] at h; cases h
      | some ps =>
        rw [q] at h
        cases h
        exact .tup (SqT.of e) (RepA.dp ds _ _ r q)
  | .ctp ds, v, p, r, h => by
    cases r with
    | ctp e r =>
      rw [toPy] at h
      cases q : toPyA ds with
      | none => rw [q] at h; cases h
      | some ps =>
        rw [q] at h
        cases h
        exact .tup e (RepA.dp ds _ _ r q)
  | .dct _, _, _, _, h => nomatch h
  | .obj _ _, _, _, _, h => nomatch h
  | .scr _, _, _, _, h => nomatch h
  | .tl _ ds, v, p, r, h => by
    cases r with
    | tl e r =>
      rw [toPy] at h
      cases q : toPyA ds with
      | none => rw [q] at h; cases h
      | some ps =>
        rw [q] at h
        cases h
        exact .lst (SqL.of e) (RepA.dp ds _ _ r q)
  | .pt _, _, _, _, h => nomatch h
  | .exv _, _, _, _, h => nomatch h
theorem RepA.dp : ∀ (d : List D) (v : List V) (p : List PyData), RepA L F v d → toPyA d = some p → DpAll L.K F v p
  | [], _, _, r, h => by cases r; cases h; exact .nil
  | d :: ds, _, _, r, h => by
    cases r with
    | cons r rs =>
      rw [toPyA] at h
      cases q : toPy d with
      | none => rw [q] at h; cases h
      | some x =>
        cases q2 : toPyA ds with
        | none => rw [q, q2] at h; cases h
        | some xs =>
          rw [q, q2] at h
          cases h
          exact .cons (Rep.dp d _ _ r q) (RepA.dp ds _ _ rs q2)
end
theorem Top.rep (s : Same F H) {v : V} {d : D} (t : Top L F H v d) : Rep L H v d := by
  cases d with
  | non => cases t; exact .non
  | bl b => cases t; exact .bl b
  | int i => cases t; exact .int i
  | str x => cases t; exact .str x
  | lst ds => obtain ⟨a, vs, rfl, e, r⟩ := t; exact .lst e (r.mono s)
  | tup ds => obtain ⟨a, vs, rfl, e, r⟩ := t; exact .tup (s _ _ e) (r.mono s)
  | ctp ds => obtain ⟨a, vs, rfl, e, r⟩ := t; exact .ctp (same_seqT s e) (r.mono s)
  | dct ds => obtain ⟨a, vs, rfl, e, r⟩ := t; exact .dct e (r.mono s)
  | obj c ds => obtain ⟨a, C, dx, fs, rfl, hc, e, r⟩ := t; exact .obj hc e (r.mono s)
  | scr l => obtain ⟨a, rfl, e⟩ := t; exact .scr l e
  | exv c => obtain ⟨a, dx, C, fs, rfl, hc, e, hd⟩ := t; exact .exv hc (s _ _ e) (s _ _ hd)
  | tl a ds => obtain ⟨rfl, vs, e, r⟩ := t; exact .tl e (r.mono s)
  | pt a => cases t; exact .pt
theorem Top.dp (s : Same F H) {v : V} {d : D} {p : PyData} (t : Top L F H v d) (h : toPy d = some p) : Dp L.K H v p := Rep.dp _ _ _ (t.rep s) h
end
/-! # operators -/
def gEq (a b : D) : Option D := match toPy a, toPy b with
  | some d, some e => if SeqAt.shaped d = true ∧ SeqAt.shaped e = true then some (.bl (PyData.eqv d e)) else none
  | _, _ => none
def gNe (a b : D) : Option D := match toPy a, toPy b with
  | some d, some e => if SeqAt.shaped d = true ∧ SeqAt.shaped e = true then some (.bl (!PyData.eqv d e)) else none
  | _, _ => none
def gAdd : D → D → Option D
  | .int i, .int j => some (.int (i + j))
  | .str a, .str b => if a.length + b.length ≤ sizeLine then some (.str (a ++ b)) else none
  | .lst a, .lst b => if a.length + b.length ≤ sizeLine then some (.lst (a ++ b)) else none
  | .tup a, .tup b => if a.length + b.length ≤ sizeLine then some (.tup (a ++ b)) else none
  | _, _ => none
def gCat : D → D → Option D
  | .lst a, .lst b => if a.length + b.length ≤ sizeLine then some (.lst (a ++ b)) else none
  | _, _ => none
def gSub : D → D → Option D
  | .int i, .int j => some (.int (i - j))
  | _, _ => none
def rep (l : List D) : Nat → List D
  | 0 => []
  | n + 1 => l ++ rep l n
def gMul : D → D → Option D
  | .int i, .int j => if (-(2 ^ 64) < i ∧ i < 2 ^ 64) ∨ (-(2 ^ 64) < j ∧ j < 2 ^ 64) then some (.int (i * j)) else none
  | .lst l, .int k => if -(2 ^ 63) ≤ k ∧ k < 2 ^ 63 ∧ l.length * k.toNat ≤ sizeLine then some (.lst (List.flatten (List.replicate k.toNat l))) else none
  | _, _ => none
def gDiv : D → D → Option D
  | .int i, .int j => if j ≠ 0 ∧ j.natAbs < 1073741824 then some (.int (i.fdiv j)) else none
  | _, _ => none
def gMod : D → D → Option D
  | .int i, .int j => if j ≠ 0 then some (.int (i.fmod j)) else none
  | _, _ => none
def gPow : D → D → Option D
  | .int i, .int j => if 0 ≤ j ∧ j ≤ 1000000 ∧ i.natAbs < 2 ^ 64 then some (.int (i ^ j.toNat)) else none
  | _, _ => none
def gInt (p : Int → Int → Bool) : D → D → Option D
  | .int i, .int j => some (.bl (p i j))
  | _, _ => none
def asI : D → Option Int
  | .int i => some i
  | _ => none
def asIs : List D → Option (List Int)
  | [] => some []
  | d :: ds => match asI d, asIs ds with
    | some i, some is => some (i :: is)
    | _, _ => none
theorem asIs_eq : ∀ {ds : List D} {l : List Int}, asIs ds = some l → ds = l.map D.int
  | [], l, h => by simp [asIs] at h; subst h; rfl
  | d :: ds, l, h => by
    cases d with
    | int i =>
      cases q : asIs ds with
      | none => simp [asIs, asI, q] at h
      | some is =>
        simp [asIs, asI, q] at h
        subst h
        rw [asIs_eq q]
        rfl
    | _ => simp [asIs, asI] at h
@[simp] theorem asIs_ints : ∀ l : List Int, asIs (l.map D.int) = some l
  | [] => rfl
  | i :: l => by simp [asIs, asI, asIs_ints l]
def gLt : D → D → Option D
  | .int i, .int j => some (.bl (decide (i < j)))
  | .str i, .str j => some (.bl (decide (i.cps.toList < j.cps.toList)))
  | .tup a, .tup b => match asIs a, asIs b with
    | some x, some y => some (.bl (HT.lexLt x y))
    | _, _ => none
  | _, _ => none
section
variable {L : Lay} {X : Cx}
theorem od_int {f : Value → Value → Sem Value} {r : Int → Int → V} {g : D → D → Option D} {C : Int → Int → Prop} (o : OpR X f (rI C r)) (h : ∀ dx dy d, g dx dy = some d → ∃ i j, dx = .int i ∧ dy = .int j ∧ C i j ∧ ∀ F, Rep L F (r i j) d) : OpD L X f g := by
  refine ⟨_, o, fun F H x y dx dy d Q s tx ty e w => ?_⟩
  obtain ⟨i, j, rfl, rfl, c, rr⟩ := h dx dy d e
  cases tx
  cases ty
  exact ⟨i, j, rfl, rfl, c, w _ F H (.here (rr F))⟩
theorem od_int0 {f : Value → Value → Sem Value} {r : Int → Int → V} {g : D → D → Option D} (o : OpR X f (rI0 r)) (h : ∀ dx dy d, g dx dy = some d → ∃ i j, dx = .int i ∧ dy = .int j ∧ ∀ F, Rep L F (r i j) d) : OpD L X f g := by
  refine ⟨_, o, fun F H x y dx dy d Q s tx ty e w => ?_⟩
  obtain ⟨i, j, rfl, rfl, rr⟩ := h dx dy d e
  cases tx
  cases ty
  exact ⟨i, j, rfl, rfl, w _ F H (.here (rr F))⟩
theorem od_sub : OpD L X (binaryOp .Sub) gSub := od_int0 op_sub fun dx dy d e => by
  cases dx <;> cases dy <;> simp [gSub] at e
  subst e
  exact ⟨_, _, rfl, rfl, fun _ => .int _⟩
theorem od_mod : OpD L X (binaryOp .Mod) gMod := od_int op_modN fun dx dy d e => by
  cases dx <;> cases dy <;> simp [gMod] at e
  obtain ⟨c, e⟩ := e
  subst e
  exact ⟨_, _, rfl, rfl, c, fun _ => .int _⟩
theorem od_div : OpD L X (binaryOp .FloorDiv) gDiv := od_int op_fdivN fun dx dy d e => by
  cases dx <;> cases dy <;> simp [gDiv] at e
  obtain ⟨c, e⟩ := e
  subst e
  exact ⟨_, _, rfl, rfl, c, fun _ => .int _⟩
theorem od_pow : OpD L X (binaryOp .Pow) gPow := od_int op_pow fun dx dy d e => by
  unfold gPow at e
  split at e
  · split at e
    · rename_i c
      have e := Option.some.inj e
      subst e
      exact ⟨_, _, rfl, rfl, c, fun _ => .int _⟩
    · exact nomatch e
  · exact nomatch e
theorem repA_rep {F : Hp} {vs : List V} {ds : List D} (r : RepA L F vs ds) (n : Nat) : RepA L F (List.flatten (List.replicate n vs)) (List.flatten (List.replicate n ds)) := by
  induction n with
  | zero => exact .nil
  | succ n ih => rw [List.replicate_succ, List.replicate_succ, List.flatten_cons, List.flatten_cons]; exact r.append ih
theorem free_of {F H : Hp} {p : Addr} (s : Same F H) (hp : H p = none) : F p = none := none_of fun o e => by
  rw [s _ _ e] at hp
  cases hp
theorem od_mul : OpD L X (binaryOp .Mult) gMul := by
  refine ⟨_, op_mul.or op_rep, fun F H x y dx dy d Q s tx ty e w => ?_⟩
  unfold gMul at e
  split at e
  · cases tx
    cases ty
    split at e
    · rename_i c
      have e := Option.some.inj e
      subst e
      exact .inl ⟨_, _, rfl, rfl, c, w _ F H (.here (.int _))⟩
    · exact nomatch e
  · obtain ⟨a, vs, rfl, h, r⟩ := tx
    cases ty
    split at e
    · rename_i l k c
      obtain ⟨c1, c2, c3⟩ := c
      have e := Option.some.inj e
      subst e
      refine .inr ⟨a, k, vs, rfl, rfl, h, c1, c2, by rw [r.length]; exact c3, fun p hp => w _ _ _ (.new hp (.lst upd_same ?_))⟩
      exact RepA.mono (same_upd (free_of s hp)) (repA_rep r _)
    · exact nomatch e
  · exact nomatch e
theorem od_add (hK : L.K = X.K) : OpD L X (binaryOp .Add) gAdd := by
  refine ⟨_, op_add.or (op_add_str.or (op_cat.or op_catA)), fun F H x y dx dy d Q s tx ty e w => ?_⟩
  unfold gAdd at e
  split at e
  · cases tx
    cases ty
    have e := Option.some.inj e
    subst e
    exact .inl ⟨_, _, rfl, rfl, w _ F H (.here (.int _))⟩
  · cases tx
    cases ty
    split at e
    · rename_i c
      have e := Option.some.inj e
      subst e
      exact .inr (.inl ⟨_, _, rfl, rfl, c, w _ F H (.here (.str _))⟩)
    · exact nomatch e
  · obtain ⟨a, vs, rfl, h, r⟩ := tx
    obtain ⟨b, us, rfl, h', r'⟩ := ty
    split at e
    · rename_i c
      have e := Option.some.inj e
      subst e
      refine .inr (.inr (.inl ⟨a, b, vs, us, rfl, rfl, h, h', by rw [r.length, r'.length]; exact c, fun p hp => w _ _ _ (.new hp (.lst upd_same ?_))⟩))
      exact RepA.mono (same_upd (free_of s hp)) (r.append r')
    · exact nomatch e
  · obtain ⟨a, vs, rfl, h, r⟩ := tx
    obtain ⟨b, us, rfl, h', r'⟩ := ty
    split at e
    · rename_i x y c
      have e := Option.some.inj e
      subst e
      refine .inr (.inr (.inr ⟨a, b, vs, us, rfl, rfl, SqT.of (s _ _ h), SqT.of (s _ _ h'), by rw [r.length, r'.length]; exact c, fun ex => ?_, fun _ ey => ?_, fun _ _ p hp => ?_⟩))
      · subst ex
        cases r
        exact w _ F H (.here (.tup h' r'))
      · subst ey
        cases r'
        rw [List.append_nil] at w
        exact w _ F H (.here (.tup h r))
      · exact w _ _ _ (.new hp (.tup upd_same (RepA.mono (same_upd (free_of s hp)) (r.append r'))))
    · exact nomatch e
  · exact nomatch e
theorem oo_cat : OpO L X (binaryOp .Add) gCat := by
  refine ⟨_, op_cat, fun F H x y dx dy d Q s tx ty e w => ?_⟩
  unfold gCat at e
  split at e
  · obtain ⟨a, vs, rfl, h, r⟩ := tx
    obtain ⟨b, us, rfl, h', r'⟩ := ty
    split at e
    · rename_i c
      have e := Option.some.inj e
      subst e
      exact ⟨a, b, vs, us, rfl, rfl, h, h', by rw [r.length, r'.length]; exact c, fun p hp => w _ _ hp ⟨_, upd_same, r.append r'⟩⟩
    · exact nomatch e
  · exact nomatch e
/-! ## comparisons -/
theorem od_cmp {f : Value → Value → Sem Value} {p : Int → Int → Bool} (o : OpR X f (rI0 fun i j => .bl (p i j))) : OpD L X f (gInt p) := od_int0 o fun dx dy d e => by
  unfold gInt at e
  split at e
  · have e := Option.some.inj e
    subst e
    exact ⟨_, _, rfl, rfl, fun _ => .bl _⟩
  · exact nomatch e
theorem od_gt : OpD L X (compareOp .Gt) (gInt fun i j => decide (j < i)) := od_cmp op_gt
theorem od_lt (hK : L.K = X.K) (hu : X.A.units + 100 < cLine) : OpD L X (compareOp .Lt) gLt := by
  refine ⟨_, op_lt.or (op_lt_str.or (op_ltT (by omega))), fun F H x y dx dy d Q s tx ty e w => ?_⟩
  unfold gLt at e
  split at e
  · cases tx
    cases ty
    have e := Option.some.inj e
    subst e
    exact .inl ⟨_, _, rfl, rfl, w _ F H (.here (.bl _))⟩
  · cases tx
    cases ty
    have e := Option.some.inj e
    subst e
    exact .inr (.inl ⟨_, _, rfl, rfl, w _ F H (.here (.bl _))⟩)
  · obtain ⟨a, vs, rfl, h, r⟩ := tx
    obtain ⟨b, us, rfl, h', r'⟩ := ty
    split at e
    · rename_i x y e1 e2
      have e := Option.some.inj e
      subst e
      have e1 := asIs_eq e1
      have e2 := asIs_eq e2
      subst e1 e2
      have r := r.of_ints
      have r' := r'.of_ints
      subst r r'
      exact .inr (.inr ⟨a, b, _, _, rfl, rfl, SqT.of (s _ _ h), SqT.of (s _ _ h'), w _ F H (.here (.bl _))⟩)
    · exact nomatch e
  · exact nomatch e
theorem od_leI : OpD L X (compareOp .LtE) (gInt fun i j => decide (i ≤ j)) := od_cmp op_le
theorem od_eq (hK : L.K = X.K) (hu : X.A.units + 100 < cLine) : OpD L X (compareOp .Eq) gEq := by
  refine ⟨_, op_eqD (by omega), fun F H x y dx dy d Q s tx ty e w => ?_⟩
  unfold gEq at e
  split at e
  · rename_i p q e1 e2
    split at e
    · rename_i c
      have e := Option.some.inj e
      subst e
      exact ⟨p, q, hK ▸ tx.dp s e1, hK ▸ ty.dp s e2, c.1, c.2, w _ F H (.here (.bl _))⟩
    · exact nomatch e
  · exact nomatch e
theorem od_ne (hK : L.K = X.K) (hu : X.A.units + 100 < cLine) : OpD L X (compareOp .NotEq) gNe := by
  refine ⟨_, op_neD (by omega), fun F H x y dx dy d Q s tx ty e w => ?_⟩
  unfold gNe at e
  split at e
  · rename_i p q e1 e2
    split at e
    · rename_i c
      have e := Option.some.inj e
      subst e
      exact ⟨p, q, hK ▸ tx.dp s e1, hK ▸ ty.dp s e2, c.1, c.2, w _ F H (.here (.bl _))⟩
    · exact nomatch e
  · exact nomatch e
/-! ## in -/
def flV : D → Option V
  | .non => some .non
  | .bl b => some (.bl b)
  | .int i => some (.int i)
  | .str s => some (.str s)
  | _ => none
def flVs : List D → Option (List V)
  | [] => some []
  | d :: ds => match flV d, flVs ds with
    | some v, some vs => some (v :: vs)
    | _, _ => none
theorem flV_top {F H : Hp} {x : V} {d : D} {v : V} (t : Top L F H x d) (e : flV d = some v) : x = v ∧ flatV v = true := by
  cases d <;> first | (cases t; cases e; exact ⟨rfl, rfl⟩) | exact absurd e (by simp [flV])
theorem flVs_rep {F : Hp} : ∀ {xs : List V} {ds : List D} {vs : List V}, RepA L F xs ds → flVs ds = some vs → xs = vs ∧ vs.all flatV = true
  | _, _, _, .nil, e => by cases e; exact ⟨rfl, rfl⟩
  | _, d :: ds, vs, .cons r rs, e => by
    cases q : flV d with
    | none => simp [flVs, q] at e
    | some v =>
      cases q2 : flVs ds with
      | none => simp [flVs, q, q2] at e
      | some us =>
        simp [flVs, q, q2] at e
        subst e
        obtain ⟨h1, h2⟩ := flV_top (Rep.top r (Same.refl _)) q
        obtain ⟨h3, h4⟩ := flVs_rep rs q2
        subst h1 h3
        exact ⟨rfl, by rw [List.all_cons, h2, h4]; rfl⟩
def gInF (neg : Bool) (d : D) (l : List D) : Option D := match flV d, flVs l with
  | some v, some vs => some (.bl (if neg then !inV v vs else inV v vs))
  | _, _ => none
/-- flat things in a list or a tuple, a text in a text -/
def gIn : D → D → Option D
  | d, .lst l => gInF false d l
  | d, .tup l => gInF false d l
  | d, .ctp l => gInF false d l
  | .str a, .str b => some (.bl (!(Builtin.Str.occurrences b a 0 b.length 1).isEmpty))
  | _, _ => none
theorem gInF_ok {F H : Hp} {x y : V} {d dd : D} {l : List D} {neg : Bool} {Q : VK} (tx : Top L F H x d) {a : Addr} {vs : List V} (h : SqL L.K H a vs ∨ SqT L.K H a vs) (r : RepA L F vs l) (e : gInF neg d l = some dd) (hK : L.K = X.K) (w : ∀ v F' H', Nu L F H F' H' v dd → Q v H') : rIn X.K neg x (.ref a) H Q := by
  unfold gInF at e
  split at e
  · rename_i v us e1 e2
    have e := Option.some.inj e
    subst e
    obtain ⟨rfl, f1⟩ := flV_top tx e1
    obtain ⟨rfl, f2⟩ := flVs_rep r e2
    exact ⟨a, _, rfl, hK ▸ h, f1, f2, w _ F H (.here (.bl _))⟩
  · exact nomatch e
theorem od_in (hK : L.K = X.K) : OpD L X (compareOp .In) gIn := by
  refine ⟨_, op_in_seq.or op_in_str, fun F H x y dx dy d Q s tx ty e w => ?_⟩
  unfold gIn at e
  split at e
  · obtain ⟨a, vs, rfl, h, r⟩ := ty
    exact .inl (gInF_ok (X := X) (y := x) tx (.inl (SqL.of h)) r e hK w)
  · obtain ⟨a, vs, rfl, h, r⟩ := ty
    exact .inl (gInF_ok (X := X) (y := x) tx (.inr (SqT.of (s _ _ h))) r e hK w)
  · obtain ⟨a, vs, rfl, h, r⟩ := ty
    exact .inl (gInF_ok (X := X) (y := x) tx (.inr (same_seqT s h)) r e hK w)
  · cases tx
    cases ty
    have e := Option.some.inj e
    subst e
    exact .inr ⟨_, _, rfl, rfl, w _ F H (.here (.bl _))⟩
  · exact nomatch e
/-! ## one operand -/
def gNeg : D → Option D
  | .int i => some (.int (-i))
  | _ => none
theorem ud_neg : UnD L X (unaryOp .USub) gNeg := by
  refine ⟨_, un_neg, fun F H x dx d Q s tx e w => ?_⟩
  unfold gNeg at e
  split at e
  · cases tx
    have e := Option.some.inj e
    subst e
    exact ⟨_, rfl, w _ F H (.here (.int _))⟩
  · exact nomatch e
end
end Pu

/-! # Pu5 -/
namespace Pu
open PySem PySem.Spec PyProof.Rows L2

/-! # subscripts -/
section
variable {L : Lay} {F H : Hp}
theorem RepA.atI {vs : List V} {ds : List D} (r : RepA L F vs ds) {i : Int} {d : D} (e : atI ds i = some d) : ∃ v, L2.atI vs i = some v ∧ Rep L F v d := by
  unfold L2.atI at e ⊢
  rw [r.length]
  cases q : ixN ds.length i with
  | none => rw [q] at e; exact nomatch e
  | some j =>
    rw [q] at e
    exact r.get (i := j) e
def cutG {α : Type} (xs : List α) (lo hi : Option Int) : List α := (xs.drop (HT.sIx xs.length 0 lo)).take (HT.sIx xs.length xs.length hi - HT.sIx xs.length 0 lo)
theorem RepA.cut {vs : List V} {ds : List D} (r : RepA L F vs ds) (lo hi : Option Int) : RepA L F (cutV vs lo hi) (cutG ds lo hi) := by
  unfold cutV cutG
  rw [r.length]
  exact (r.drop _).take _
end
def gIx : D → D → Option D
  | .lst l, .int i => atI l i
  | .tup l, .int i => atI l i
  | .ctp l, .int i => atI l i
  | .scr l, .int i => (atI l i).map .int
  | .str s, .int i => if s.length ≤ sizeLine then (atI s.cps.toList i).map fun c => .str ⟨#[c]⟩ else none
  | _, _ => none
section
variable {L : Lay} {E : L2.St → XK} {X : Cx} {e a b c : Expr} {es : List Expr} {ma mb mc : Mx} {pos p2 : Pos}
def IxD (L : Lay) (X : Cx) (g : D → D → Option D) : Prop := ∃ r : R2, IxR X r ∧ ∀ (F H : Hp) (x y : V) (dx dy d : D) (Q : VK), Same F H → Top L F H x dx → Top L F H y dy → g dx dy = some d → (∀ v F' H', Nu L F H F' H' v d → Q v H') → r x y H Q
theorem xd_ix (hK : L.K = X.K) : IxD L X gIx := by
  refine ⟨_, ix_seq, fun F H x y dx dy d Q s tx ty e w => ?_⟩
  unfold gIx at e
  split at e
  · obtain ⟨a, vs, rfl, h, r⟩ := tx
    cases ty
    obtain ⟨v, e1, rv⟩ := r.atI e
    exact .inl ⟨a, vs, _, v, rfl, rfl, SqL.of h, e1, w _ F H (.here rv)⟩
  · obtain ⟨a, vs, rfl, h, r⟩ := tx
    cases ty
    obtain ⟨v, e1, rv⟩ := r.atI e
    exact .inr (.inl ⟨a, vs, _, v, rfl, rfl, SqT.of (s _ _ h), e1, w _ F H (.here rv)⟩)
  · obtain ⟨a, vs, rfl, h, r⟩ := tx
    cases ty
    obtain ⟨v, e1, rv⟩ := r.atI e
    exact .inr (.inl ⟨a, vs, _, v, rfl, rfl, hK ▸ same_seqT s h, e1, w _ F H (.here rv)⟩)
  · rename_i l i
    obtain ⟨a, rfl, h⟩ := tx
    cases ty
    cases q : atI l i with
    | none => rw [q] at e; exact nomatch e
    | some z =>
      rw [q] at e
      have e := Option.some.inj e
      subst e
      refine .inl ⟨a, _, _, .int z, rfl, rfl, hK ▸ h, ?_, w _ F H (.here (.int _))⟩
      unfold atI at q ⊢
      rw [List.length_map]
      cases q2 : ixN l.length i with
      | none => rw [q2] at q; exact nomatch q
      | some j =>
        rw [q2] at q
        have q : l[j]? = some z := q
        show (l.map V.int)[j]? = some (.int z)
        rw [List.getElem?_map, q]
        rfl
  · rename_i z i
    cases tx
    cases ty
    split at e
    · rename_i hz
      cases q : atI z.cps.toList i with
      | none => rw [q] at e; exact nomatch e
      | some k =>
        rw [q] at e
        have e := Option.some.inj e
        subst e
        exact .inr (.inr ⟨z, i, k, rfl, rfl, hz, q, w _ F H (.here (.str _))⟩)
    · exact nomatch e
  · exact nomatch e
theorem imE_ix {g : D → D → Option D} (o : IxD L X g) (ha : ImX L E X a ma) (hb : ImX L E X b mb) (hs : PlainIx b := by exact fun _ _ => rfl) : ImE L E X (.Subscript a b pos) (mBin g ma mb) := by
  obtain ⟨r, ho, hr⟩ := o
  obtain ⟨ta, pa, ia⟩ := ha
  obtain ⟨tb, pb, ib⟩ := hb
  refine ⟨_, pe_ix ho pa pb hs, fun Z σ env F H Q k h => bin_in ia ib k h fun env2 F2 H2 x y dx dy d k2 tx ty eg w => ?_⟩
  exact hr F2 H2 x y dx dy d Q k2.fh tx ty eg fun v F' H' n => w v F' H' (n.go k2).1 (n.go k2).2
/-! ## slices -/
abbrev Mo := Env' → Rx (Option Int)
def oNo : Mo := fun env => .ok none env
def oSo (m : Me) : Mo := fun env => (m env).bind fun d env1 => liftO ((asI d).map some) env1
def gSl : D → Option Int → Option Int → Option D
  | .lst l, lo, hi => some (.lst (cutG l lo hi))
  | .tup l, lo, hi => some (.tup (cutG l lo hi))
  | _, _, _ => none
def mSl (g : D → Option Int → Option Int → Option D) (m : Mx) (lo hi : Mo) : Me := fun env => (m env).bind fun x env1 => (lo env1).bind fun l env2 => (hi env2).bind fun u env3 => match deref env3 x with
  | some dx => liftO (g dx l u) env3
  | none => .no
end
/-! # a chain of two comparisons -/
section
variable {L : Lay} {E : L2.St → XK} {X : Cx} {e a b c : Expr} {es : List Expr} {ma mb mc : Mx} {pos p2 : Pos}
def mChn (g g' : D → D → Option D) (ma mb mc : Mx) : Me := fun env => (ma env).bind fun x env1 => (mb env1).bind fun y env2 => match deref env2 x, deref env2 y with
  | some dx, some dy => match (g dx dy).bind asB with
    | some true => (mc env2).bind fun z env3 => match deref env3 y, deref env3 z with
      | some dy', some dz => liftO (g' dy' dz) env3
      | _, _ => .no
    | some false => .ok (.bl false) env2
    | none => .no
  | _, _ => .no
theorem nu_bl {F H F' H' : Hp} {v : V} {b : Bool} (n : Nu L F H F' H' v (.bl b)) : v = .bl b ∧ F' = F ∧ H' = H := by
  generalize hd : D.bl b = d at n
  cases n with
  | here r => subst hd; cases r; exact ⟨rfl, rfl, rfl⟩
  | new n r no => subst hd; cases r
theorem chain_in {op op' : CmpOp} {g g' : D → D → Option D} (o : OpD L X (compareOp op) g) (o' : OpD L X (compareOp op') g') (ha : ImX L E X a ma) (hb : ImX L E X b mb) (hc : ImX L E X c mc) :
    ∃ r r' ta tb tc, OpR X (compareOp op) r ∧ OpR X (compareOp op') r' ∧ PE X a ta ∧ PE X b tb ∧ PE X c tc ∧ Im L E (rDat L) (tChain r r' ta tb tc) (mChn g g' ma mb mc) := by
  obtain ⟨r, ho, hr⟩ := o
  obtain ⟨r', ho', hr'⟩ := o'
  obtain ⟨ta, pa, ia⟩ := ha
  obtain ⟨tb, pb, ib⟩ := hb
  obtain ⟨tc, pc, ic⟩ := hc
  refine ⟨r, r', ta, tb, tc, ho, ho', pa, pb, pc, fun Z σ env F H Q k h => ia Z σ env F H _ k (Post.bind h fun x env1 v F1 H1 g1 rv h => ?_)⟩
  refine ib Z σ env1 F1 H1 _ g1.ok (Post.bind h fun y env2 u F2 H2 g2 ru h => ?_)
  cases ex : deref env2 x with
  | none => rw [ex] at h; exact h.elim
  | some dx =>
    cases ey : deref env2 y with
    | none => rw [ex, ey] at h; exact h.elim
    | some dy =>
      rw [ex, ey] at h
      simp only at h
      cases eg : g dx dy with
      | none => rw [eg] at h; exact h.elim
      | some d =>
        rw [eg] at h
        cases d with
        | bl q =>
          refine hr F2 H2 v u dx dy (.bl q) _ g2.ok.fh (RelX.top g2.ok (RelX.mono rv g2.ff) ex) (RelX.top g2.ok ru ey) eg fun z F' H' n => ?_
          obtain ⟨rfl, rfl, rfl⟩ := nu_bl n
          refine ⟨q, rfl, ?_⟩
          cases q with
          | false => exact iteF (h _ F' H' (Go.refl g2.ok) (.bl _))
          | true =>
            refine iteT (ic Z σ env2 F' H' _ g2.ok (Post.bind h fun z env3 zv F3 H3 g3 rz h => ?_))
            cases ey' : deref env3 y with
            | none => rw [ey'] at h; exact h.elim
            | some dy' =>
              cases ez : deref env3 z with
              | none => rw [ey', ez] at h; exact h.elim
              | some dz =>
                rw [ey', ez] at h
                obtain ⟨d, eg', w⟩ := Post.some h
                exact hr' F3 H3 u zv dy' dz d _ g3.ok.fh (RelX.top g3.ok (RelX.mono ru g3.ff) ey') (RelX.top g3.ok rz ez) eg' fun v F' H' n => w v F' H' (n.go g3.ok).1 (n.go g3.ok).2
        | _ => exact h.elim
theorem imE_chain {op op' : CmpOp} {g g' : D → D → Option D} (o : OpD L X (compareOp op) g) (o' : OpD L X (compareOp op') g') (ha : ImX L E X a ma) (hb : ImX L E X b mb) (hc : ImX L E X c mc) (hm : lastMarks [op, op'] [b, c] = false := by with_unfolding_all rfl) :
    ImE L E X (.Compare a [op, op'] [b, c] pos) (mChn g g' ma mb mc) := by
  obtain ⟨r, r', ta, tb, tc, ho, ho', pa, pb, pc, i⟩ := chain_in o o' ha hb hc
  exact ⟨_, pe_chain ho ho' pa pb pc hm, i⟩
end
end Pu

/-! # Pu6 -/
namespace Pu
open PySem PySem.Spec PyProof.Rows L2

/-! # calls of what is built in -/
inductive TopA (L : Lay) (F H : Hp) : List V → List D → Prop
  | nil : TopA L F H [] []
  | cons {v : V} {d : D} {vs : List V} {ds : List D} (h : Top L F H v d) (r : TopA L F H vs ds) : TopA L F H (v :: vs) (d :: ds)
def derefs (env : Env') : List XD → Option (List D)
  | [] => some []
  | x :: xs => match deref env x, derefs env xs with
    | some d, some ds => some (d :: ds)
    | _, _ => none
section
variable {L : Lay} {Z F H : Hp} {σ : L2.St} {env : Env'}
theorem RelXs.top (k : Ok L Z F H σ env) : ∀ {vs : List V} {xs : List XD} {ds : List D}, RelXs L F σ vs xs → derefs env xs = some ds → TopA L F H vs ds
  | _, _, _, .nil, e => by cases e; exact .nil
  | _, x :: xs, ds, .cons r rs, e => by
    cases q : deref env x with
    | none => simp [derefs, q] at e
    | some d =>
      cases q2 : derefs env xs with
      | none => simp [derefs, q, q2] at e
      | some ds' =>
        simp [derefs, q, q2] at e
        subst e
        exact .cons (r.top k q) (rs.top k q2)
end
def CallD (L : Lay) (X : Cx) (f : Value) (g : List D → Option D) : Prop := ∃ r : List V → Hp → VK → Prop, CallR X f r ∧ ∀ (F H : Hp) (vs : List V) (ds : List D) (d : D) (Q : VK), Same F H → TopA L F H vs ds → g ds = some d → (∀ v F' H', Nu L F H F' H' v d → Q v H') → r vs H Q
def CallO (L : Lay) (X : Cx) (f : Value) (g : List D → Option D) : Prop := ∃ r : List V → Hp → VK → Prop, CallR X f r ∧ ∀ (F H : Hp) (vs : List V) (ds : List D) (d : D) (Q : VK), Same F H → TopA L F H vs ds → g ds = some d → (∀ p o, H p = none → Own L F (upd H p o) p d → Q (.ref p) (upd H p o)) → r vs H Q
def mBlt (g : List D → Option D) (ma : Mxs) : Me := fun env => (ma env).bind fun xs env1 => match derefs env1 xs with
  | some ds => liftO (g ds) env1
  | none => .no
section
variable {L : Lay} {E : L2.St → XK} {X : Cx} {e a b c : Expr} {es : List Expr} {ma : Mxs} {pos p : Pos} {x : Str} {g : List D → Option D}
theorem blt_in {r : List V → Hp → VK → Prop} {rl : Rl V D} {ta : TA} (ia : Im L E (rOps L) ta ma) {Z : Hp} {σ : L2.St} {env : Env'} {F H : Hp} {Q : VK} (k : Ok L Z F H σ env) (h : Post L Z E σ env F H rl Q (mBlt g ma env))
    (hr : ∀ (env2 : Env') (F2 H2 : Hp) (vs : List V) (ds : List D) (d : D), Ok L Z F2 H2 σ env2 → TopA L F2 H2 vs ds → g ds = some d → (∀ v F' H', Go L Z F2 H2 σ env2 F' H' σ env2 → rl.r (cutL L H2) F' H' σ env2 v d → Q v H') → r vs H2 Q) : tCB r ta σ H Q := by
  refine ia Z σ env F H _ k (Post.bind h fun xs env1 vs F1 H1 g1 rv h => ?_)
  cases ex : derefs env1 xs with
  | none => rw [ex] at h; exact h.elim
  | some ds =>
    rw [ex] at h
    obtain ⟨d, eg, w⟩ := Post.some h
    exact hr env1 F1 H1 vs ds d g1.ok (RelXs.top g1.ok rv ex) eg w
theorem imE_blt {id : String} (o : CallD L X (.builtin id) g) (hg : Gl X x) (hm : X.mg x = none) (hv : bootBuiltins x = some (.builtin id)) (ha : ImXs L E X (e :: es) ma) (hn : x ≠ "__name__" := by decide) (hdb : (x == ("__debug__" : Str)) = false := by decide)
    (hst : starEach (e :: es) X.env = (false, eval e X.env) :: starEach es X.env := by rfl) (hpl : (backTo pos (starEach es X.env)).any (·.1) = false := by rfl) : ImE L E X (.Call (.Name x p) (e :: es) [] pos) (mBlt g ma) := by
  obtain ⟨r, ho, hr⟩ := o
  obtain ⟨ta, pa, ia⟩ := ha
  refine ⟨_, pe_callB ho hg hm hv pa hn hdb hst hpl, fun Z σ env F H Q k h => blt_in ia k h fun env2 F2 H2 vs ds d k2 tv eg w => ?_⟩
  exact hr F2 H2 vs ds d Q k2.fh tv eg fun v F' H' n => w v F' H' (n.go k2).1 (n.go k2).2
theorem imE_bltT {T : String} (o : CallD L X (.type T) g) (hg : Gl X x) (hm : X.mg x = none) (hv : bootBuiltins x = some (.type T)) (ha : ImXs L E X (e :: es) ma) (hn : x ≠ "__name__" := by decide) (hdb : (x == ("__debug__" : Str)) = false := by decide)
    (hst : starEach (e :: es) X.env = (false, eval e X.env) :: starEach es X.env := by rfl) (hpl : (backTo pos (starEach es X.env)).any (·.1) = false := by rfl) : ImE L E X (.Call (.Name x p) (e :: es) [] pos) (mBlt g ma) := by
  obtain ⟨r, ho, hr⟩ := o
  obtain ⟨ta, pa, ia⟩ := ha
  refine ⟨_, pe_callTy ho hg hm hv pa hn hdb hst hpl, fun Z σ env F H Q k h => blt_in ia k h fun env2 F2 H2 vs ds d k2 tv eg w => ?_⟩
  exact hr F2 H2 vs ds d Q k2.fh tv eg fun v F' H' n => w v F' H' (n.go k2).1 (n.go k2).2
theorem imO_bltT {T : String} (o : CallO L X (.type T) g) (hg : Gl X x) (hm : X.mg x = none) (hv : bootBuiltins x = some (.type T)) (ha : ImXs L E X (e :: es) ma) (hn : x ≠ "__name__" := by decide) (hdb : (x == ("__debug__" : Str)) = false := by decide)
    (hst : starEach (e :: es) X.env = (false, eval e X.env) :: starEach es X.env := by rfl) (hpl : (backTo pos (starEach es X.env)).any (·.1) = false := by rfl) : ImO L E X (.Call (.Name x p) (e :: es) [] pos) (mBlt g ma) := by
  obtain ⟨r, ho, hr⟩ := o
  obtain ⟨ta, pa, ia⟩ := ha
  refine ⟨_, pe_callTy ho hg hm hv pa hn hdb hst hpl, fun Z σ env F H Q k h => blt_in ia k h fun env2 F2 H2 vs ds d k2 tv eg w => ?_⟩
  exact hr F2 H2 vs ds d Q k2.fh tv eg fun p o n ow => w _ F2 _ (Go.more k2 (same_upd n)) ⟨p, rfl, cut_none n, k2.free n, ow, k2.nomu (cut_none n)⟩
/-! ## which -/
def gLen : List D → Option D
  | [.lst l] => some (.int l.length)
  | [.tup l] => some (.int l.length)
  | [.ctp l] => some (.int l.length)
  | [.scr l] => some (.int l.length)
  | [.tl _ l] => some (.int l.length)
  | [.str s] => if s.length ≤ sizeLine then some (.int s.length) else none
  | _ => none
theorem top1 {F H : Hp} {vs : List V} {d : D} (t : TopA L F H vs [d]) : ∃ v, vs = [v] ∧ Top L F H v d := by
  cases t with
  | cons h r => cases r; exact ⟨_, rfl, h⟩
theorem top2 {F H : Hp} {vs : List V} {d d' : D} (t : TopA L F H vs [d, d']) : ∃ v v', vs = [v, v'] ∧ Top L F H v d ∧ Top L F H v' d' := by
  cases t with
  | cons h r =>
    obtain ⟨v, rfl, h'⟩ := top1 r
    exact ⟨_, _, rfl, h, h'⟩
theorem cd_len (hK : L.K = X.K) : CallD L X (.builtin "len") gLen := by
  refine ⟨_, call_len, fun F H vs ds d Q s t e w => ?_⟩
  unfold gLen at e
  split at e
  · obtain ⟨v, rfl, a, us, rfl, h, r⟩ := top1 t
    have e := Option.some.inj e
    subst e
    refine ⟨_, _, rfl, .inl ⟨us, SqL.of h, rfl⟩, ?_⟩
    rw [r.length]
    exact w _ F H (.here (.int _))
  · obtain ⟨v, rfl, a, us, rfl, h, r⟩ := top1 t
    have e := Option.some.inj e
    subst e
    refine ⟨_, _, rfl, .inr ⟨us, SqT.of (s _ _ h), rfl⟩, ?_⟩
    rw [r.length]
    exact w _ F H (.here (.int _))
  · obtain ⟨v, rfl, a, us, rfl, h, r⟩ := top1 t
    have e := Option.some.inj e
    subst e
    refine ⟨_, _, rfl, .inr ⟨us, hK ▸ same_seqT s h, rfl⟩, ?_⟩
    rw [r.length]
    exact w _ F H (.here (.int _))
  · obtain ⟨v, rfl, a, rfl, h⟩ := top1 t
    have e := Option.some.inj e
    subst e
    refine ⟨_, _, rfl, .inl ⟨_, hK ▸ h, rfl⟩, ?_⟩
    rw [List.length_map]
    exact w _ F H (.here (.int _))
  · obtain ⟨v, rfl, rfl, us, h, r⟩ := top1 t
    have e := Option.some.inj e
    subst e
    refine ⟨_, _, rfl, .inl ⟨us, SqL.of h, rfl⟩, ?_⟩
    rw [r.length]
    exact w _ F H (.here (.int _))
  · obtain ⟨v, rfl, h⟩ := top1 t
    cases h
    split at e
    · rename_i hz
      have e := Option.some.inj e
      subst e
      exact ⟨_, _, rfl, ⟨hz, rfl⟩, w _ F H (.here (.int _))⟩
    · exact nomatch e
  · exact nomatch e
def gSum : List D → Option D
  | [.lst l] => (asIs l).map fun is => .int is.sum
  | _ => none
def asBs : List D → Option (List Bool)
  | [] => some []
  | d :: ds => match asB d, asBs ds with
    | some i, some is => some (i :: is)
    | _, _ => none
@[simp] theorem asBs_bls : ∀ l : List Bool, asBs (l.map D.bl) = some l
  | [] => rfl
  | i :: l => by simp [asBs, asB, asBs_bls l]
def gAll : List D → Option D
  | [.lst l] => (asBs l).map fun is => .bl (is.all id)
  | _ => none
def gMax2 : List D → Option D
  | [.int i, .int j] => some (.int (if j > i then j else i))
  | _ => none
def gMin2 : List D → Option D
  | [.int i, .int j] => some (.int (if j < i then j else i))
  | _ => none
theorem cd_max2 (hc : X.calm = true) : CallD L X (.builtin "max") gMax2 := by
  refine ⟨_, call_max2 hc, fun F H vs ds d Q s t e w => ?_⟩
  unfold gMax2 at e
  split at e
  · obtain ⟨v, v', rfl, h1, h2⟩ := top2 t
    cases h1
    cases h2
    have e := Option.some.inj e
    subst e
    exact ⟨_, _, rfl, w _ F H (.here (.int _))⟩
  · exact nomatch e
theorem cd_min2 (hc : X.calm = true) : CallD L X (.builtin "min") gMin2 := by
  refine ⟨_, call_min2 hc, fun F H vs ds d Q s t e w => ?_⟩
  unfold gMin2 at e
  split at e
  · obtain ⟨v, v', rfl, h1, h2⟩ := top2 t
    cases h1
    cases h2
    have e := Option.some.inj e
    subst e
    exact ⟨_, _, rfl, w _ F H (.here (.int _))⟩
  · exact nomatch e
def gToI : List D → Option D
  | [.int i] => some (.int i)
  | [.bl k] => some (.int (if k then 1 else 0))
  | _ => none
theorem cd_int : CallD L X (.type "int") gToI := by
  refine ⟨_, call_int1, fun F H vs ds d Q s t e w => ?_⟩
  unfold gToI at e
  split at e
  · obtain ⟨v, rfl, h1⟩ := top1 t
    cases h1
    have e := Option.some.inj e
    subst e
    exact .inl ⟨_, rfl, w _ F H (.here (.int _))⟩
  · obtain ⟨v, rfl, h1⟩ := top1 t
    cases h1
    have e := Option.some.inj e
    subst e
    exact .inr ⟨_, rfl, w _ F H (.here (.int _))⟩
  · exact nomatch e
/-- list(x), tuple(x), x a list or a tuple -/
def gLstOf : List D → Option D
  | [.lst l] => some (.lst l)
  | [.tup l] => some (.lst l)
  | _ => none
theorem co_list (hK : L.K = X.K) : CallO L X (.type "list") gLstOf := by
  refine ⟨_, call_list_of, fun F H vs ds d Q s t e w => ?_⟩
  unfold gLstOf at e
  split at e
  · obtain ⟨v, rfl, a, us, rfl, h, r⟩ := top1 t
    have e := Option.some.inj e
    subst e
    exact ⟨a, us, rfl, .inl (SqL.of h), fun l hl => w l _ hl ⟨us, upd_same, r⟩⟩
  · obtain ⟨v, rfl, a, us, rfl, h, r⟩ := top1 t
    have e := Option.some.inj e
    subst e
    exact ⟨a, us, rfl, .inr (SqT.of (s _ _ h)), fun l hl => w l _ hl ⟨us, upd_same, r⟩⟩
  · exact nomatch e
def gTupOf : List D → Option D
  | [.lst l] => some (.tup l)
  | [.tup l] => some (.tup l)
  | _ => none
theorem cd_tuple (hK : L.K = X.K) : CallD L X (.type "tuple") gTupOf := by
  refine ⟨_, call_tuple_of, fun F H vs ds d Q s t e w => ?_⟩
  unfold gTupOf at e
  split at e
  · obtain ⟨v, rfl, a, us, rfl, h, r⟩ := top1 t
    have e := Option.some.inj e
    subst e
    exact ⟨a, us, rfl, .inl ⟨SqL.of h, fun l hl => w _ _ _ (.new hl (.tup upd_same (r.mono (same_upd (free_of s hl)))))⟩⟩
  · obtain ⟨v, rfl, a, us, rfl, h, r⟩ := top1 t
    have e := Option.some.inj e
    subst e
    exact ⟨a, us, rfl, .inr ⟨SqT.of (s _ _ h), w _ F H (.here (.tup h r))⟩⟩
  · exact nomatch e
end
end Pu

/-! # Pu7 -/
namespace Pu
open PySem PySem.Spec PyProof.Rows L2

/-! # statements -/
inductive Out where
  | nx (env : Env') | rt (d : D) (env : Env') | bk (env : Env') | ct (env : Env') | er (c : Nat) (fs : List (Nat × D)) (env : Env') | no
/-- what a def gives back: data, or a thing of its own -/
abbrev RM := Hp → Rl V D
def rmD (L : Lay) : RM := fun _ => rDat L
def rmO (L : Lay) : RM := fun Z => ⟨fun _ F' H' σ env v d => ∃ p, v = .ref p ∧ Z p = none ∧ F' p = none ∧ Own L F' H' p d ∧ ∀ i, ¬ Mu σ env i p, fun _ h => h⟩
def PostS (L : Lay) (Z : Hp) (E : L2.St → XK) (rm : Rl V D) (σ : L2.St) (env : Env') (F H : Hp) (N : Ends) : Out → Prop
  | .nx env' => ∀ σ' F' H', Go L Z F H σ env F' H' σ' env' → N.nx σ' H'
  | .bk env' => ∀ σ' F' H', Go L Z F H σ env F' H' σ' env' → N.bk σ' H'
  | .ct env' => ∀ σ' F' H', Go L Z F H σ env F' H' σ' env' → N.ct σ' H'
  | .rt d env' => ∀ v σ' F' H', Go L Z F H σ env F' H' σ' env' → rm.r (cutL L H) F' H' σ' env' v d → N.rt v H'
  | .er c fs env' => ∀ C a σ' F' H' vs, L.xcs[c]? = some C → Go L Z F H σ env F' H' σ' env' → Det H' a vs → RepF L F' vs fs → E σ' (.ref C) a H'
  | .no => False
abbrev Ms := Env' → Out
def ImSt (L : Lay) (E : L2.St → XK) (rm : RM) (t : TS) (m : Ms) : Prop :=
  ∀ (Z : Hp) (σ : L2.St) (env : Env') (F H : Hp) (N : Ends), Ok L Z F H σ env → PostS L Z E (rm Z) σ env F H N (m env) → t N σ H
def ImS (L : Lay) (E : L2.St → XK) (rm : RM) (X : Cx) (st : Stmt) (m : Ms) : Prop := ∃ t, PS X st t ∧ ImSt L E rm t m
def ImB (L : Lay) (E : L2.St → XK) (rm : RM) (X : Cx) (st : List Stmt) (m : Ms) : Prop := ∃ t, PSs X st t ∧ ImSt L E rm t m
/-- what an expression's result leads to -/
def thenS {α : Type} (m : Rx α) (k : α → Env' → Out) : Out := match m with
  | .ok a env => k a env
  | .er c fs env => .er c fs env
  | .no => .no
section
variable {L : Lay} {E : L2.St → XK} {rm : RM} {X : Cx} {σ : L2.St} {env env1 : Env'} {Z F H F1 H1 : Hp} {α β : Type} {rl : Rl β α} {N : Ends}
theorem PostS.from {r : Rl V D} {σ1 : L2.St} (g : Go L Z F H σ env F1 H1 σ1 env1) {o : Out} (h : PostS L Z E r σ env F H N o) : PostS L Z E r σ1 env1 F1 H1 N o := by
  cases o with
  | nx e => exact fun σ' F' H' g' => h σ' F' H' (g.trans g')
  | bk e => exact fun σ' F' H' g' => h σ' F' H' (g.trans g')
  | ct e => exact fun σ' F' H' g' => h σ' F' H' (g.trans g')
  | rt d e => exact fun v σ' F' H' g' q => h v σ' F' H' (g.trans g') (r.sh (fun a => g.dn) q)
  | er c fs e => exact fun C a σ' F' H' vs e1 g' e2 e3 => h C a σ' F' H' vs e1 (g.trans g') e2 e3
  | no => exact h
/-- an expression ahead of what its result leads to -/
theorem PostS.bind {r : Rl V D} {m : Rx α} {k : α → Env' → Out} {W : β → Hp → Prop} (h : PostS L Z E r σ env F H N (thenS m k))
    (hk : ∀ d env1 v F1 H1, Go L Z F H σ env F1 H1 σ env1 → rl.r (cutL L H) F1 H1 σ env1 v d → PostS L Z E r σ env1 F1 H1 N (k d env1) → W v H1) : Post L Z E σ env F H rl W m := by
  cases m with
  | ok d env' => exact fun v F' H' g q => hk d env' v F' H' g q (PostS.from g h)
  | er c fs env' => exact fun C a F' H' vs e1 g e2 e3 => h C a σ F' H' vs e1 g e2 e3
  | no => exact h
/-! ## blocks -/
def sNil : Ms := fun env => .nx env
def sSeq (m n : Ms) : Ms := fun env => match m env with
  | .nx e => n e
  | o => o
variable {st : Stmt} {sts : List Stmt} {m n : Ms} {e a b c : Expr} {me : Me} {pos : Pos}
theorem imB_nil : ImB L E rm X [] sNil := ⟨_, pss_nil, fun Z σ env F H N k h => h σ F H (Go.refl k)⟩
theorem imB_cons (h1 : ImS L E rm X st m) (h2 : ImB L E rm X sts n) : ImB L E rm X (st :: sts) (sSeq m n) := by
  obtain ⟨t, p, i⟩ := h1
  obtain ⟨u, q, j⟩ := h2
  refine ⟨_, pss_cons p q, fun Z σ env F H N k h => i Z σ env F H _ k ?_⟩
  unfold sSeq at h
  cases hm : m env with
  | nx e1 =>
    rw [hm] at h
    exact fun σ' F' H' g => j Z σ' e1 F' H' N g.ok (PostS.from g h)
  | bk e => rw [hm] at h; exact h
  | ct e => rw [hm] at h; exact h
  | rt d e => rw [hm] at h; exact h
  | er c fs e => rw [hm] at h; exact h
  | no => rw [hm] at h; exact h
theorem imB_one (h1 : ImS L E rm X st m) : ImB L E rm X [st] m := by
  obtain ⟨t, p, i⟩ := h1
  exact ⟨_, pss_one p, i⟩
/-! ## simple ones -/
def sBrk : Ms := fun env => .bk env
def sExp (me : Me) : Ms := fun env => thenS (me env) fun _ env1 => .nx env1
theorem imS_expr (h : ImE L E X e me) (hs : swapsWith e none pos.line X.env = pure false := by rfl) : ImS L E rm X (.Expr e pos) (sExp me) := by
  obtain ⟨t, p, i⟩ := h
  refine ⟨_, ps_expr p hs, fun Z σ env F H N k h => i Z σ env F H _ k (PostS.bind h fun d env1 v F1 H1 g r h => ?_)⟩
  exact h σ F1 H1 (Go.refl g.ok)
def sRet (me : Me) : Ms := fun env => thenS (me env) fun d env1 => .rt d env1
theorem imS_ret (h : ImE L E X e me) : ImS L E (rmD L) X (.Return (some e) pos) (sRet me) := by
  obtain ⟨t, p, i⟩ := h
  refine ⟨_, ps_ret p, fun Z σ env F H N k h => i Z σ env F H _ k (PostS.bind h fun d env1 v F1 H1 g r h => ?_)⟩
  exact h v σ F1 H1 (Go.refl g.ok) r
theorem imS_retO (h : ImO L E X e me) : ImS L E (rmO L) X (.Return (some e) pos) (sRet me) := by
  obtain ⟨t, p, i⟩ := h
  refine ⟨_, ps_ret p, fun Z σ env F H N k h => i Z σ env F H _ k ?_⟩
  unfold sRet thenS at h
  cases q : me env with
  | ok d env' =>
    rw [q] at h
    rintro v F' H' g ⟨p, rfl, n, nf, ow, nm⟩
    exact h _ σ F' H' g ⟨p, rfl, k.zh p n, nf, ow, nm⟩
  | er c fs env' => rw [q] at h; exact fun C a F' H' vs e1 g e2 e3 => h C a σ F' H' vs e1 g e2 e3
  | no => rw [q] at h; exact h
def sIf (t : Mt) (m n : Ms) : Ms := fun env => thenS (t env) fun b env1 => if b = true then m env1 else n env1
theorem imS_if {t : Mt} {x y : List Stmt} (h : ImT L E X c t) (ha : ImB L E rm X x m) (hb : ImB L E rm X y n) : ImS L E rm X (.If c x y pos) (sIf t m n) := by
  obtain ⟨t, p, i⟩ := h
  obtain ⟨u, q, j⟩ := ha
  obtain ⟨u', q', j'⟩ := hb
  refine ⟨_, ps_if p q q', fun Z σ env F H N k h => i Z σ env F H _ k (PostS.bind h fun d env1 v F1 H1 g r h => ?_)⟩
  have r : v = d := r
  subst r
  cases v with
  | true => exact iteT (j Z σ env1 F1 H1 N g.ok h)
  | false => exact iteF (j' Z σ env1 F1 H1 N g.ok h)
/-! ## stores to names -/
def sSet (i : Nat) (me : Me) : Ms := fun env => thenS (me env) fun d env1 => if i < env1.length then .nx (env1.set i (.dat d)) else .no
def sSetO (i : Nat) (me : Me) : Ms := fun env => thenS (me env) fun d env1 => if i < env1.length then .nx (env1.set i (.own d)) else .no
theorem set_in {i : Nat} {te : TE} (hi : Im L E (rDat L) te me) : ImSt L E rm (tAsg te (gName i)) (sSet i me) := fun Z σ env F H N k h => by
  refine hi Z σ env F H _ k (PostS.bind h fun d env1 v F1 H1 g r h => ?_)
  by_cases hl : i < env1.length
  · rw [if_pos hl] at h
    exact h _ F1 H1 (Go.setDat g.ok (by rw [g.ok.len]; exact hl) r)
  · rw [if_neg hl] at h
    exact h.elim
theorem setO_in {i : Nat} {te : TE} (hi : Im L E (rOwn L) te me) : ImSt L E rm (tAsg te (gName i)) (sSetO i me) := fun Z σ env F H N k h => by
  refine hi Z σ env F H _ k ?_
  unfold sSetO thenS at h
  cases q : me env with
  | ok d env' =>
    rw [q] at h
    rintro v F' H' g ⟨p, rfl, n, nf, ow, nm⟩
    simp only at h
    by_cases hl : i < env'.length
    · rw [if_pos hl] at h
      exact h _ F' H' (Go.take g (by rw [g.ok.len]; exact hl) ow nf nm n (k.zh p n))
    · rw [if_neg hl] at h
      exact h.elim
  | er c fs env' => rw [q] at h; exact fun C a F' H' vs e1 g e2 e3 => h C a σ F' H' vs e1 g e2 e3
  | no => rw [q] at h; exact h
theorem imS_set (i : Nat) {x : Str} {p' : Pos} (hN : X.N.Nodup) (h : ImE L E X e me) (hi : X.N[i]? = some x := by rfl) (hx : Loc X.env.scope x := by first | exact Or.inl rfl | exact Or.inr rfl) (hs : swapsWith e (some (.Name x p')) pos.line X.env = pure false := by rfl)
    (hf : X.fn x = true ∨ X.env.scope.names.lookup x = some .local := by first | exact .inl rfl | exact .inr rfl) : ImS L E rm X (.Assign [.Name x p'] e pos) (sSet i me) := by
  obtain ⟨t, p, j⟩ := h
  exact ⟨_, ps_set hN hi hx p hs hf, set_in j⟩
theorem imS_setO (i : Nat) {x : Str} {p' : Pos} (hN : X.N.Nodup) (h : ImO L E X e me) (hi : X.N[i]? = some x := by rfl) (hx : Loc X.env.scope x := by first | exact Or.inl rfl | exact Or.inr rfl) (hs : swapsWith e (some (.Name x p')) pos.line X.env = pure false := by rfl)
    (hf : X.fn x = true ∨ X.env.scope.names.lookup x = some .local := by first | exact .inl rfl | exact .inr rfl) : ImS L E rm X (.Assign [.Name x p'] e pos) (sSetO i me) := by
  obtain ⟨t, p, j⟩ := h
  exact ⟨_, ps_set hN hi hx p hs hf, setO_in j⟩
/-! ## targets -/
abbrev Mg := D → Env' → Option Env'
/-- a target takes data; ts: the slots it may change -/
def ImG (L : Lay) (X : Cx) (tg : Expr) (ts : List Nat) (m : Mg) : Prop := ∃ g, PG X tg g ∧ ∀ (Z : Hp) (σ : L2.St) (env : Env') (F H : Hp) (v : V) (d : D) (env' : Env') (Q : L2.St → Hp → Prop), Ok L Z F H σ env → Rep L F v d → m d env = some env' →
  (∀ σ', Go L Z F H σ env F H σ' env' → σ'.length = σ.length → (∀ j, j ∉ ts → σ'[j]? = σ[j]?) → Q σ' H) → g v σ H Q
def ImGs (L : Lay) (X : Cx) (tg : List Expr) (ts : List Nat) (m : List D → Env' → Option Env') : Prop := ∃ g, PGs X tg g ∧ ∀ (Z : Hp) (σ : L2.St) (env : Env') (F H : Hp) (v : List V) (d : List D) (env' : Env') (Q : L2.St → Hp → Prop), Ok L Z F H σ env → RepA L F v d → m d env = some env' →
  (∀ σ', Go L Z F H σ env F H σ' env' → σ'.length = σ.length → (∀ j, j ∉ ts → σ'[j]? = σ[j]?) → Q σ' H) → g v σ H Q
def gNm (i : Nat) : Mg := fun d env => if i < env.length then some (env.set i (.dat d)) else none
def gNl : List D → Env' → Option Env' := fun ds env => match ds with
  | [] => some env
  | _ => none
def gCn (m : Mg) (r : List D → Env' → Option Env') : List D → Env' → Option Env' := fun ds env => match ds with
  | d :: ds => (m d env).bind (r ds)
  | [] => none
def gTp (n : Nat) (r : List D → Env' → Option Env') : Mg := fun d env => match d with
  | .tup ds => if ds.length = n then r ds env else none
  | _ => none
theorem imG_name (i : Nat) {x : Str} {p' : Pos} (hN : X.N.Nodup) (hi : X.N[i]? = some x := by rfl) (hx : Loc X.env.scope x := by first | exact Or.inl rfl | exact Or.inr rfl) (hf : X.fn x = true ∨ X.env.scope.names.lookup x = some .local := by first | exact .inl rfl | exact .inr rfl) : ImG L X (.Name x p') [i] (gNm i) := by
  refine ⟨_, pg_name hN hi hx hf, fun Z σ env F H v d env' Q k r e w => ?_⟩
  unfold gNm at e
  by_cases hl : i < env.length
  · rw [if_pos hl] at e
    have e := Option.some.inj e
    subst e
    exact w _ (Go.setDat k (by rw [k.len]; exact hl) r) (List.length_set ..) fun j hj => List.getElem?_set_ne (fun z => hj (by simp [z]))
  · rw [if_neg hl] at e
    cases e
theorem imGs_nil : ImGs L X [] [] gNl := by
  refine ⟨_, pgs_nil, fun Z σ env F H v d env' Q k r e w => ?_⟩
  cases r with
  | nil =>
    have e := Option.some.inj e
    subst e
    exact ⟨rfl, w σ (Go.refl k) rfl fun _ _ => rfl⟩
  | cons h r => cases e
theorem imGs_cons {tg : Expr} {tgs : List Expr} {ts us : List Nat} {m : Mg} {r : List D → Env' → Option Env'} (h : ImG L X tg ts m) (h2 : ImGs L X tgs us r) (hs : (assignEach (tg :: tgs) X.env).map (·.2) = assign tg X.env :: (assignEach tgs X.env).map (·.2) := by rfl) : ImGs L X (tg :: tgs) (ts ++ us) (gCn m r) := by
  obtain ⟨g, p, i⟩ := h
  obtain ⟨gs, q, j⟩ := h2
  refine ⟨_, pgs_cons p q hs, fun Z σ env F H v d env' Q k rr e w => ?_⟩
  cases rr with
  | nil => cases e
  | cons h r =>
    rename_i v d vs ds
    unfold gCn at e
    cases q1 : m d env with
    | none => simp [q1] at e
    | some e1 =>
      simp [q1] at e
      refine ⟨v, vs, rfl, i Z σ env F H v d e1 _ k h q1 fun σ1 g1 l1 n1 => ?_⟩
      refine j Z σ1 e1 F H vs ds env' Q g1.ok r e fun σ2 g2 l2 n2 => w σ2 (g1.trans g2) (l2.trans l1) fun l hl => ?_
      rw [n2 l (fun z => hl (List.mem_append_right _ z)), n1 l (fun z => hl (List.mem_append_left _ z))]
theorem imG_tup {es : List Expr} {kk : Nat} {n : Nat} {ts : List Nat} {r : List D → Env' → Option Env'} (hK : L.K = X.K) (hc : X.calm = true) (h : ImGs L X es ts r)
    (hn : (assignEach es X.env).length = n := by rfl) (hst : (assignEach es X.env).findIdx? (·.1) = none := by rfl) : ImG L X (.Tuple es kk pos) ts (gTp n r) := by
  obtain ⟨g, p, i⟩ := h
  refine ⟨_, pg_tup hc p hn hst, fun Z σ env F H v d env' Q k rr e w => ?_⟩
  unfold gTp at e
  split at e
  · rename_i ds
    cases rr with
    | tup h ra =>
      by_cases hl : ds.length = n
      · rw [if_pos hl] at e
        exact ⟨_, _, rfl, SqT.of (k.fh _ _ h), by rw [ra.length]; exact hl, i Z σ env F H _ ds env' Q k ra e w⟩
      · rw [if_neg hl] at e
        cases e
  · cases e
def sAsg (g : Mg) (me : Me) : Ms := fun env => thenS (me env) fun d env1 => match g d env1 with
  | some e => .nx e
  | none => .no
theorem imS_asg {tg : Expr} {ts : List Nat} {g : Mg} (hg : ImG L X tg ts g) (h : ImE L E X e me) (hs : swapsWithSole [tg] e pos.line X.env = pure false := by rfl) (hw : swappedStores [tg] e X.env = pure none := by rfl) (h1 : (assignEach [tg] X.env).map (·.2) = [assign tg X.env] := by rfl) : ImS L E rm X (.Assign [tg] e pos) (sAsg g me) := by
  obtain ⟨t, p, i⟩ := h
  obtain ⟨u, q, j⟩ := hg
  refine ⟨_, ps_asg p q hs hw h1, fun Z σ env F H N k h => i Z σ env F H _ k (PostS.bind h fun d env1 v F1 H1 g1 r h => ?_)⟩
  cases eg : g d env1 with
  | none => rw [eg] at h; exact h.elim
  | some e2 =>
    rw [eg] at h
    exact j Z σ env1 F1 H1 v d e2 _ g1.ok r eg fun σ' g2 _ _ => h σ' F1 H1 g2
end
end Pu

/-! # Pu8 -/
namespace Pu
open PySem PySem.Spec PyProof.Rows L2
/-! # a, b = x, y: each data or a thing of its own -/
abbrev MD := Bool × D
inductive RelM (L : Lay) (H F' H' : Hp) (σ : L2.St) (env : Env') : List V → List MD → Prop
  | nil : RelM L H F' H' σ env [] []
  | dat {v : V} {d : D} {vs : List V} {ds : List MD} (h : Rep L F' v d) (r : RelM L H F' H' σ env vs ds) : RelM L H F' H' σ env (v :: vs) ((false, d) :: ds)
  | own {p : Addr} {d : D} {vs : List V} {ds : List MD} (was : H p = none) (nf : F' p = none) (ow : Own L F' H' p d) (nm : ∀ i, ¬ Mu σ env i p) (nv : ∀ (j : Nat) (d' : D), ds[j]? = some (true, d') → vs[j]? ≠ some (.ref p)) (r : RelM L H F' H' σ env vs ds) : RelM L H F' H' σ env (.ref p :: vs) ((true, d) :: ds)
theorem RelM.sh {L : Lay} {H H1 F' H' : Hp} {σ : L2.St} {env : Env'} (n : ∀ a, H1 a = none → H a = none) : ∀ {vs : List V} {ds : List MD}, RelM L H1 F' H' σ env vs ds → RelM L H F' H' σ env vs ds
  | _, _, .nil => .nil
  | _, _, .dat h r => .dat h (r.sh n)
  | _, _, .own a b c d e r => .own (n _ a) b c d e (r.sh n)
def rMix (L : Lay) : Rl (List V) (List MD) := ⟨fun H F' H' σ env v d => RelM L H F' H' σ env v d, fun n h => h.sh n⟩
def ImM (L : Lay) (E : L2.St → XK) (X : Cx) (es : List Expr) (m : Env' → Rx (List MD)) : Prop := ∃ t, PA X es t ∧ Im L E (rMix L) t m
section
variable {L : Lay} {E : L2.St → XK} {rm : RM} {X : Cx} {e a b c : Expr} {es : List Expr} {me : Me} {pos : Pos}
def dNil : Env' → Rx (List MD) := fun env => .ok [] env
def dCons (o : Bool) (m : Me) (r : Env' → Rx (List MD)) : Env' → Rx (List MD) := fun env => (m env).bind fun d env1 => (r env1).bind fun ds env2 => .ok ((o, d) :: ds) env2
theorem imM_nil : ImM L E X [] dNil := ⟨_, pa_nil, fun Z σ env F H Q k h => h [] F H (Go.refl k) .nil⟩
theorem imM_dat {r : Env' → Rx (List MD)} (h : ImE L E X e me) (hr : ImM L E X es r) (hs : starEach (e :: es) X.env = (false, eval e X.env) :: starEach es X.env := by rfl) : ImM L E X (e :: es) (dCons false me r) := by
  obtain ⟨t, p, i⟩ := h
  obtain ⟨u, q, j⟩ := hr
  refine ⟨_, pa_cons p q hs, fun Z σ env F H Q k h => i Z σ env F H _ k (Post.bindAt (Go.refl k) h fun d env1 v F1 H1 g rv h => ?_)⟩
  refine j Z σ env1 F1 H1 _ g.ok (Post.bindAt g h fun ds env2 vs F2 H2 g2 rs h => ?_)
  exact h (v :: vs) F2 H2 (g.trans g2) (.dat (Rep.mono g2.ff rv) (RelM.sh (fun a => g.dn) rs))
theorem RelM.old {H F' H' : Hp} {σ : L2.St} {env : Env'} {p : Addr} (ho : ∃ o, H p = some o) : ∀ {vs : List V} {ds : List MD}, RelM L H F' H' σ env vs ds → ∀ (j : Nat) (d' : D), ds[j]? = some (true, d') → vs[j]? ≠ some (.ref p)
  | _, _, .nil, _, _, e => by simp at e
  | _, _, .dat h r, 0, _, e => by simp at e
  | _, _, .dat h r, j + 1, d', e => by
    simp only [List.getElem?_cons_succ] at e ⊢
    exact RelM.old ho r j d' e
  | _, _, .own a b c d e r, 0, _, _ => by
    intro z
    simp only [List.getElem?_cons_zero, Option.some.injEq, V.ref.injEq] at z
    subst z
    obtain ⟨o, ho⟩ := ho
    rw [a] at ho
    cases ho
  | _, _, .own a b c d _ r, j + 1, d', e => by
    simp only [List.getElem?_cons_succ] at e ⊢
    exact RelM.old ho r j d' e
/-- into slots one behind the other -/
def setV (σ : L2.St) : List Nat → List V → L2.St
  | i :: is, v :: vs => setV (σ.set i (some v)) is vs
  | _, _ => σ
def setM (env : Env') : List Nat → List MD → Option Env'
  | i :: is, (o, d) :: ds => if i < env.length then setM (env.set i (if o then .own d else .dat d)) is ds else none
  | [], [] => some env
  | _, _ => none
theorem Go.setM {Z F H F' H' : Hp} {σ : L2.St} {env : Env'} : ∀ {is : List Nat} {vs : List V} {ds : List MD} {σ' : L2.St} {env' env2 : Env'}, RelM L (cutL L H) F' H' σ' env' vs ds → (∀ a, cutL L H a = none → Z a = none) → Go L Z F H σ env F' H' σ' env' → Pu.setM env' is ds = some env2 → Go L Z F H σ env F' H' (setV σ' is vs) env2
  | [], _, _, _, _, _, .nil, _, g, e => by cases e; exact g
  | i :: is, _, _, σ', env', _, .dat h r, zh, g, e => by
    rename_i v d vs ds
    rw [Pu.setM] at e
    by_cases hl : i < env'.length
    · rw [if_pos hl] at e
      have hi : i < σ'.length := by rw [g.ok.len]; exact hl
      have g2 := g.trans (Go.setDat g.ok hi h)
      refine Go.setM (σ' := σ'.set i (some v)) (env' := env'.set i (.dat d)) ?_ zh g2 e
      clear e
      induction r with
      | nil => exact .nil
      | dat h' r ih => exact .dat h' ih
      | own a b c n nv r ih =>
        refine .own a b c (fun j m => ?_) nv ih
        rcases mu_set hi g.ok.len m with ⟨_, _, ⟨_, z⟩ | ⟨_, z⟩⟩ | ⟨_, m⟩
        · cases z
        · cases z
        · exact n j m
    · rw [if_neg hl] at e
      cases e
  | i :: is, _, _, σ', env', _, .own was nf ow nm nv r, zh, g, e => by
    rename_i p d vs ds
    rw [Pu.setM] at e
    by_cases hl : i < env'.length
    · rw [if_pos hl] at e
      have hi : i < σ'.length := by rw [g.ok.len]; exact hl
      have g2 := Go.take g hi ow nf nm was (zh p was)
      refine Go.setM (σ' := σ'.set i (some (.ref p))) (env' := env'.set i (.own d)) ?_ zh g2 e
      clear e
      induction r with
      | nil => exact .nil
      | dat h' r ih => exact .dat h' (ih fun j d' e => by have := nv (j + 1) d' (by simpa using e); simpa using this)
      | own a b c n nv' r ih =>
        rename_i q dq vs' ds'
        refine .own a b c (fun j m => ?_) nv' (ih fun j d' e => by have := nv (j + 1) d' (by simpa using e); simpa using this)
        rcases mu_set hi g.ok.len m with ⟨_, e, _⟩ | ⟨_, m⟩
        · cases e
          exact nv 0 dq (by simp) (by simp)
        · exact n j m
    · rw [if_neg hl] at e
      cases e
theorem RelM.length {H F' H' : Hp} {σ : L2.St} {env : Env'} : ∀ {vs : List V} {ds : List MD}, RelM L H F' H' σ env vs ds → vs.length = ds.length
  | _, _, .nil => rfl
  | _, _, .dat _ r => by simp [r.length]
  | _, _, .own _ _ _ _ _ r => by simp [r.length]
theorem setM_length {is : List Nat} {ds : List MD} {env env' : Env'} : setM env is ds = some env' → is.length = ds.length := by
  induction is generalizing ds env with
  | nil => cases ds <;> simp [setM]
  | cons i is ih =>
    cases ds with
    | nil => simp [setM]
    | cons d ds =>
      obtain ⟨o, d⟩ := d
      intro e
      rw [setM] at e
      split at e
      · simp [ih e]
      · cases e
def sPar (is : List Nat) (m : Env' → Rx (List MD)) : Ms := fun env => thenS (m env) fun ds env1 => match setM env1 is ds with
  | some e => .nx e
  | none => .no
theorem par_in {is : List Nat} {m : Env' → Rx (List MD)} {ta : TA} {W : Ends → L2.St → List V → Hp → Prop} (i : Im L E (rMix L) ta m) (hW : ∀ N σ vs H1, vs.length = is.length → N.nx (setV σ is vs) H1 → W N σ vs H1) : ImSt L E rm (fun N σ H => ta σ H (W N σ)) (sPar is m) := fun Z σ env F H N k h => by
  refine i Z σ env F H _ k ?_
  unfold sPar thenS at h
  cases q : m env with
  | ok ds env' =>
    rw [q] at h
    rintro vs F' H' g r
    simp only at h
    cases q2 : setM env' is ds with
    | none => rw [q2] at h; exact h.elim
    | some e2 =>
      rw [q2] at h
      have r' : RelM L (cutL L H) F' H' σ env' vs ds := r
      exact hW N σ vs H' (by rw [r'.length, setM_length q2]) (h _ F' H' (Go.setM r' k.zh g q2))
  | er c fs env' => rw [q] at h; exact fun C a F' H' vs e1 g e2 e3 => h C a σ F' H' vs e1 g e2 e3
  | no => rw [q] at h; exact h
theorem imS_par2 (i j : Nat) {x y : Str} {px py pt : Pos} {kt k2 pt2} {m : Env' → Rx (List MD)} (hc : X.calm = true) (hN : X.N.Nodup) (h : ImM L E X [a, b] m) (hi : X.N[i]? = some x := by rfl) (hj : X.N[j]? = some y := by rfl) (hij : i ≠ j := by decide)
    (hx : X.env.scope.names.lookup x = some .local := by rfl) (hy : X.env.scope.names.lookup y = some .local := by rfl)
    (hw : swappedStores [.Tuple [.Name x px, .Name y py] kt pt] (.Tuple [a, b] k2 pt2) X.env = pure (some [x, y]) := by rfl)
    (hs : swapsWithSole [.Tuple [.Name x px, .Name y py] kt pt] (.Tuple [a, b] k2 pt2) pos.line X.env = pure false := by rfl) : ImS L E rm X (.Assign [.Tuple [.Name x px, .Name y py] kt pt] (.Tuple [a, b] k2 pt2) pos) (sPar [i, j] m) := by
  obtain ⟨t, p, q⟩ := h
  refine ⟨_, ps_par hc hN hi hj hij hx hy p hw hs, par_in q fun N σ vs H1 hl z => ?_⟩
  match vs, hl with
  | [v, w], _ => exact ⟨v, w, rfl, z⟩
end
end Pu

/-! # Pu9 -/
namespace Pu
open PySem PySem.Spec PyProof.Rows L2
section
variable {L : Lay} {E : L2.St → XK} {rm : RM} {X : Cx} {e a b c : Expr} {es : List Expr} {me mk mv : Me} {pos apos cpos spos p0 : Pos} {x : Str} {i : Nat}
/-! # a slot's own list is changed -/
def slotV (env : Env') (i : Nat) : Option (Sl × D) := match env[i]? with
  | some (.own d) => some (.own d, d)
  | some (.io d) => some (.io d, d)
  | _ => none
theorem slotV_mut {Z F H : Hp} {σ : L2.St} {env : Env'} (k : Ok L Z F H σ env) {y : Sl} {d : D} (e : slotV env i = some (y, d)) : ∃ p, σ[i]? = some (some (.ref p)) ∧ Own L F H p d ∧ env[i]? = some y ∧ (y = .own d ∨ y = .io d) := by
  unfold slotV at e
  split at e
  · rename_i d' q
    cases e
    obtain ⟨p, e1, _, ow, _⟩ := k.mut (.inl q)
    exact ⟨p, e1, ow, q, .inl rfl⟩
  · rename_i d' q
    cases e
    obtain ⟨p, e1, _, ow, _⟩ := k.mut (.inr q)
    exact ⟨p, e1, ow, q, .inr rfl⟩
  · cases e
/-- x.append(e) -/
def sApp (i : Nat) (me : Me) : Ms := fun env => match slotV env i with
  | some (_, .lst _) => thenS (me env) fun d env1 => match slotV env1 i with
    | some (y, .lst l) => if l.length < sizeLine then .nx (env1.set i (putSl y (.lst (l ++ [d])))) else .no
    | _ => .no
  | _ => .no
theorem imS_append (i : Nat) (h : ImE L E X e me) (hN : X.N[i]? = some x := by rfl) (hv : Vis X.env.scope x := by first | exact Or.inl rfl | exact Or.inr (Or.inl rfl) | exact Or.inr (Or.inr rfl)) (hd : (x == ("__debug__" : Str)) = false := by decide)
    (hcd : (x == ("__classdict__" : Str)) = false := by decide) (hs : swapsWith (.Call (.Attribute (.Name x p0) "append" apos) [e] [] cpos) none spos.line X.env = pure false := by rfl)
    (hbase : attributeBase (.Name x p0) "append" X.env (eval (.Name x p0) X.env) = eval (.Name x p0) X.env := by rfl)
    (hfew : ((backTo cpos (starEach [e] X.env)).all (fun x => !x.1) && (backToKw cpos (keywordEach [] X.env)).all (fun x => x.1.isSome)
      && decide ([e].length + ([] : List Keyword).length + (if ([] : List Keyword).isEmpty then 0 else 1) < 30)) = true := by rfl)
    (hline : (apos.endLine == cpos.line) = true := by rfl) (hst : starEach [e] X.env = [(false, eval e X.env)] := by rfl) :
    ImS L E rm X (.Expr (.Call (.Attribute (.Name x p0) "append" apos) [e] [] cpos) spos) (sApp i me) := by
  obtain ⟨t, p, j⟩ := h
  refine ⟨_, ps_expr (pe_bm PySem.F.plainAttrs_list PySem.F.slot_list_append PySem.F.type_list_append mt_append (pe_var hN hv hd hcd) (pa_cons p pa_nil hst) hbase hfew hline hst rfl) hs, fun Z σ env F H N k h => ?_⟩
  unfold sApp at h
  split at h
  · rename_i y l q
    obtain ⟨p, e1, ⟨vs, hp, _⟩, _⟩ := slotV_mut k q
    refine ⟨_, e1, .inl ⟨rfl, _, SqL.of hp⟩, j Z σ env F H _ k (PostS.bind h fun d env1 v F1 H1 g r h => ?_)⟩
    split at h
    · rename_i y' l' q'
      obtain ⟨p', e1', ow, ey, hy⟩ := slotV_mut g.ok q'
      rw [e1] at e1'
      cases e1'
      obtain ⟨ws, hw, rw'⟩ := ow
      split at h
      · rename_i hz
        have g2 := Go.put (o := .lst (ws ++ [v])) (d' := .lst (l' ++ [d])) g.ok e1 ey hy ⟨ws ++ [v], upd_same, rw'.append (.cons r .nil)⟩
        exact ⟨p, ws, v, rfl, rfl, hw, by rw [rw'.length]; exact hz, h σ F1 _ g2⟩
      · exact h.elim
    · exact h.elim
  · exact h.elim
/-- x.extend(e), e a list -/
def sExt (i : Nat) (me : Mx) : Ms := fun env => match slotV env i with
  | some (_, .lst _) => thenS (me env) fun z env1 => match slotV env1 i, deref env1 z with
    | some (y, .lst l), some (.lst d) => if l.length + d.length ≤ sizeLine then .nx (env1.set i (putSl y (.lst (l ++ d)))) else .no
    | _, _ => .no
  | _ => .no
theorem imS_extend (i : Nat) {mx : Mx} (h : ImX L E X e mx) (hN : X.N[i]? = some x := by rfl) (hv : Vis X.env.scope x := by first | exact Or.inl rfl | exact Or.inr (Or.inl rfl) | exact Or.inr (Or.inr rfl)) (hd : (x == ("__debug__" : Str)) = false := by decide)
    (hcd : (x == ("__classdict__" : Str)) = false := by decide) (hs : swapsWith (.Call (.Attribute (.Name x p0) "extend" apos) [e] [] cpos) none spos.line X.env = pure false := by rfl)
    (hbase : attributeBase (.Name x p0) "extend" X.env (eval (.Name x p0) X.env) = eval (.Name x p0) X.env := by rfl)
    (hfew : ((backTo cpos (starEach [e] X.env)).all (fun x => !x.1) && (backToKw cpos (keywordEach [] X.env)).all (fun x => x.1.isSome)
      && decide ([e].length + ([] : List Keyword).length + (if ([] : List Keyword).isEmpty then 0 else 1) < 30)) = true := by rfl)
    (hline : (apos.endLine == cpos.line) = true := by rfl) (hst : starEach [e] X.env = [(false, eval e X.env)] := by rfl) :
    ImS L E rm X (.Expr (.Call (.Attribute (.Name x p0) "extend" apos) [e] [] cpos) spos) (sExt i mx) := by
  obtain ⟨t, p, j⟩ := h
  refine ⟨_, ps_expr (pe_bm PySem.F.plainAttrs_list PySem.F.slot_list_extend PySem.F.type_list_extend mt_extend (pe_var hN hv hd hcd) (pa_cons p pa_nil hst) hbase hfew hline hst rfl) hs, fun Z σ env F H N k h => ?_⟩
  unfold sExt at h
  split at h
  · rename_i y l q
    obtain ⟨p, e1, ⟨vs, hp, _⟩, _⟩ := slotV_mut k q
    refine ⟨_, e1, .inl ⟨rfl, _, SqL.of hp⟩, j Z σ env F H _ k (PostS.bind h fun d env1 v F1 H1 g r h => ?_)⟩
    split at h
    · rename_i y' l' ld q' qd
      obtain ⟨p', e1', ow, ey, hy⟩ := slotV_mut g.ok q'
      rw [e1] at e1'
      cases e1'
      obtain ⟨ws, hw, rw'⟩ := ow
      obtain ⟨b, zs, rfl, hb, rz⟩ := RelX.top g.ok r qd
      split at h
      · rename_i hz
        have g2 := Go.put (o := .lst (ws ++ zs)) (d' := .lst (l' ++ ld)) g.ok e1 ey hy ⟨ws ++ zs, upd_same, rw'.append rz⟩
        exact ⟨p, b, ws, zs, rfl, rfl, hw, hb, by rw [rw'.length, rz.length]; exact hz, h σ F1 _ g2⟩
      · exact h.elim
    · exact h.elim
  · exact h.elim
/-- x[k] = e -/
def sPut (i : Nat) (mk me : Me) : Ms := fun env => thenS (me env) fun d env1 => match slotV env1 i with
  | some (_, .lst _) => thenS (mk env1) fun k env2 => match slotV env2 i, k with
    | some (y, .lst l), .int n => match ixN l.length n with
      | some j => .nx (env2.set i (putSl y (.lst (l.set j d))))
      | none => .no
    | _, _ => .no
  | _ => .no
theorem imS_put (i : Nat) {kk : Expr} {p1 : Pos} (he : ImE L E X e me) (hk : ImE L E X kk mk) (hN : X.N[i]? = some x := by rfl) (hv : Vis X.env.scope x := by first | exact Or.inl rfl | exact Or.inr (Or.inl rfl) | exact Or.inr (Or.inr rfl)) (hd : (x == ("__debug__" : Str)) = false := by decide)
    (hcd : (x == ("__classdict__" : Str)) = false := by decide) (hs : swapsWithSole [.Subscript (.Name x p0) kk p1] e pos.line X.env = pure false := by rfl) (hw : swappedStores [.Subscript (.Name x p0) kk p1] e X.env = pure none := by rfl) (h1 : (assignEach [.Subscript (.Name x p0) kk p1] X.env).map (·.2) = [assign (.Subscript (.Name x p0) kk p1) X.env] := by rfl)
    (ha : ∀ v, assign (.Subscript (.Name x p0) kk p1) X.env v = (do
      let ov ← holding [v] (eval (.Name x p0) X.env)
      let iv ← holding [v, ov] (eval kk X.env)
      standAt p1
      holding [v, ov, iv] (setItem ov iv v)
      release [v, ov, iv] []) := by intro _; rfl) : ImS L E rm X (.Assign [.Subscript (.Name x p0) kk p1] e pos) (sPut i mk me) := by
  obtain ⟨t, p, j⟩ := he
  obtain ⟨tk, pk, jk⟩ := hk
  refine ⟨_, ps_asg p (pg_sub (pe_var hN hv hd hcd) pk set_list ha) hs hw h1, fun Z σ env F H N k h => j Z σ env F H _ k (PostS.bind h fun d env1 v F1 H1 g r h => ?_)⟩
  split at h
  · rename_i y l q
    obtain ⟨p, e1, ⟨vs, hp, _⟩, _⟩ := slotV_mut g.ok q
    refine ⟨_, e1, jk Z σ env1 F1 H1 _ g.ok (PostS.bind h fun dk env2 vk F2 H2 g2 rk h => ?_)⟩
    split at h
    · rename_i y' l' n q'
      obtain ⟨p', e1', ow, ey, hy⟩ := slotV_mut g2.ok q'
      rw [e1] at e1'
      cases e1'
      obtain ⟨ws, hw, rw'⟩ := ow
      cases rk
      split at h
      · rename_i m hm
        have g3 := Go.put (o := .lst (ws.set m v)) (d' := .lst (l'.set m d)) g2.ok e1 ey hy ⟨ws.set m v, upd_same, rw'.set (Rep.mono g2.ff r) m⟩
        exact ⟨p, ws, n, m, rfl, rfl, hw, by rw [rw'.length]; exact hm, h σ F2 _ g3⟩
      · exact h.elim
    · exact h.elim
  · exact h.elim
end
/-! # what is walked -/
/-- J walks the data ds, from any state behind -/
def Walk (L : Lay) (F : Hp) (J : It) (ds : List D) : Prop := ∀ F' H', Same F F' → Same F' H' →
  (∀ (i : Nat) (d : D), ds[i]? = some d → J.go i H' ∧ ∀ x H'', J.yld i H' x H'' → ∃ F'', Nu L F' H' F'' H'' x d) ∧ J.stop ds.length H'
def rWalk (L : Lay) : Rl It (List D) := ⟨fun _ F' _ _ _ J ds => Walk L F' J ds, fun _ h => h⟩
def ImI (L : Lay) (E : L2.St → XK) (X : Cx) (tg iter : Expr) (m : Env' → Rx (List D)) : Prop := ∃ wi, PI X tg iter wi ∧ Im L E (rWalk L) wi m
section
variable {L : Lay} {E : L2.St → XK} {rm : RM} {X : Cx} {e a b c tg : Expr} {es : List Expr} {me mk mv : Me} {pos apos cpos spos p0 p : Pos} {x : Str} {i : Nat}
theorem pi_seq {tl : TE} (hl : PE X a tl) : PI X tg a (fun σ H R => iList X.K tl σ H R ∨ iTup X.K tl σ H R) :=
  ⟨fun pins s σ H R I h => h.elim (fun q => (pi_list hl).run pins s σ H R I q) fun q => (pi_tup hl).run pins s σ H R I q⟩
theorem walk_list {F : Hp} {p : Addr} {ds : List D} (h : Rep L F (.ref p) (.lst ds)) : Walk L F (Itl X.K p) ds := by
  cases h with
  | lst h r =>
    intro F' H' s1 s2
    have h' := s2 _ _ (s1 _ _ h)
    refine ⟨fun i d e => ?_, ?_⟩
    · obtain ⟨v, e1, rv⟩ := r.get e
      refine ⟨⟨_, v, SqL.of h', e1⟩, fun x H'' y => ?_⟩
      obtain ⟨rfl, y⟩ := y
      have := y _ (SqL.of h')
      rw [e1] at this
      cases this
      exact ⟨F', .here (rv.mono s1)⟩
    · exact ⟨_, SqL.of h', by rw [r.length]; exact Nat.le_refl _⟩
theorem walk_tup (hK : L.K = X.K) {F : Hp} {p : Addr} {vs : List V} {ds : List D} (h : SqT L.K F p vs) (r : RepA L F vs ds) : Walk L F (Itt X.K p) ds := by
    intro F' H' s1 s2
    have h' : SqT X.K H' p _ := hK ▸ same_seqT s2 (same_seqT s1 h)
    refine ⟨fun i d e => ?_, ?_⟩
    · obtain ⟨v, e1, rv⟩ := r.get e
      refine ⟨⟨_, v, h', e1⟩, fun x H'' y => ?_⟩
      obtain ⟨rfl, y⟩ := y
      have := y _ h'
      rw [e1] at this
      cases this
      exact ⟨F', .here (rv.mono s1)⟩
    · exact ⟨_, h', by rw [r.length]; exact Nat.le_refl _⟩
theorem walk_scr (hK : L.K = X.K) {F : Hp} {p : Addr} {l : List Int} (h : Rep L F (.ref p) (.scr l)) : Walk L F (Itl X.K p) (l.map D.int) := by
  cases h with
  | scr _ h =>
    intro F' H' s1 s2
    have h' : SqL X.K H' p _ := hK ▸ Same.seq s2 (Same.seq s1 h)
    refine ⟨fun i d e => ?_, ?_⟩
    · rw [List.getElem?_map] at e
      cases q : l[i]? with
      | none => rw [q] at e; cases e
      | some z =>
        rw [q] at e
        cases e
        have e1 : (l.map V.int)[i]? = some (.int z) := by rw [List.getElem?_map, q]; rfl
        refine ⟨⟨_, _, h', e1⟩, fun x H'' y => ?_⟩
        obtain ⟨rfl, y⟩ := y
        have := y _ h'
        rw [e1] at this
        cases this
        exact ⟨F', .here (.int z)⟩
    · exact ⟨_, h', by simp⟩
def itemsOf : D → Option (List D)
  | .lst l => some l
  | .tup l => some l
  | .ctp l => some l
  | .scr l => some (l.map D.int)
  | .tl _ l => some l
  | _ => none
/-- over a list, a tuple -/
def iSeq (me : Me) : Env' → Rx (List D) := fun env => (me env).bind fun d env1 => liftO (itemsOf d) env1
theorem imI_seq (hK : L.K = X.K) (h : ImE L E X a me) : ImI L E X tg a (iSeq me) := by
  obtain ⟨t, p, j⟩ := h
  refine ⟨_, pi_seq p, fun Z σ env F H Q k h => ?_⟩
  unfold iSeq at h
  cases q : me env with
  | no => rw [q] at h; exact h.elim
  | er c fs env' =>
    rw [q] at h
    exact .inl (j Z σ env F H _ k (by rw [q]; exact h))
  | ok d env1 =>
    rw [q] at h
    cases d with
    | lst l =>
      refine .inl (j Z σ env F H _ k ?_)
      rw [q]
      intro v F1 H1 g r
      have r' : Rep L F1 v (.lst l) := r
      have r2 := r'
      cases r2 with
      | lst e ra => exact ⟨_, rfl, ⟨_, SqL.of (g.ok.fh _ _ e)⟩, h _ F1 H1 g (walk_list r')⟩
    | tup l =>
      refine .inr (j Z σ env F H _ k ?_)
      rw [q]
      intro v F1 H1 g r
      have r' : Rep L F1 v (.tup l) := r
      have r2 := r'
      cases r2 with
      | tup e ra => exact ⟨_, rfl, ⟨_, SqT.of (g.ok.fh _ _ e)⟩, h _ F1 H1 g (walk_tup hK (SqT.of e) ra)⟩
    | ctp l =>
      refine .inr (j Z σ env F H _ k ?_)
      rw [q]
      intro v F1 H1 g r
      have r' : Rep L F1 v (.ctp l) := r
      have r2 := r'
      cases r2 with
      | ctp e ra => exact ⟨_, rfl, ⟨_, hK ▸ same_seqT g.ok.fh e⟩, h _ F1 H1 g (walk_tup hK e ra)⟩
    | tl b l =>
      refine .inl (j Z σ env F H _ k ?_)
      rw [q]
      intro v F1 H1 g r
      have r' : Rep L F1 v (.tl b l) := r
      cases r' with
      | tl e ra => exact ⟨_, rfl, ⟨_, SqL.of (g.ok.fh _ _ e)⟩, h _ F1 H1 g (walk_list (.lst e ra))⟩
    | scr l =>
      refine .inl (j Z σ env F H _ k ?_)
      rw [q]
      intro v F1 H1 g r
      have r' : Rep L F1 v (.scr l) := r
      have r2 := r'
      cases r2 with
      | scr _ e => exact ⟨_, rfl, ⟨_, hK ▸ Same.seq g.ok.fh e⟩, h _ F1 H1 g (walk_scr hK r')⟩
    | _ => exact h.elim
/-- over range(n), range(a, b) -/
def rngD (lo : Int) (n : Nat) : List D := (List.range n).map fun k => .int (lo + (k : Nat))
def iRn1 (me : Me) : Env' → Rx (List D) := fun env => (me env).bind fun d env1 => match d with
  | .int j => if -(2 ^ 62) ≤ j ∧ j < 2 ^ 62 then .ok (rngD 0 j.toNat) env1 else .no
  | _ => .no
theorem walk_rng {F : Hp} {lo : Int} {n : Nat} : Walk L F (Itr lo n) (rngD lo n) := by
  intro F' H' s1 s2
  have hl : (rngD lo n).length = n := by unfold rngD; rw [List.length_map, List.length_range]
  refine ⟨fun i d e => ?_, by rw [hl]; exact Nat.le_refl _⟩
  have hi : i < n := by
    rw [← hl]
    exact (List.getElem?_eq_some_iff.mp e).1
  unfold rngD at e
  rw [List.getElem?_map, List.getElem?_range hi] at e
  cases e
  refine ⟨hi, fun x H'' y => ?_⟩
  obtain ⟨rfl, rfl⟩ := y
  exact ⟨F', .here (.int _)⟩
theorem imI_range1 {p1 : Pos} (h : ImE L E X a me) (hg : Gl X "range") (hm : X.mg "range" = none) (hs : starEach [a] X.env = [(false, eval a X.env)] := by rfl) : ImI L E X tg (.Call (.Name "range" p) [a] [] p1) (iRn1 me) := by
  obtain ⟨t, q, j⟩ := h
  refine ⟨_, pi_range1 hg hm (pa_cons q pa_nil hs) hs, fun Z σ env F H Q k h => j Z σ env F H _ k (Post.bind h fun d env1 v F1 H1 g r h => ?_)⟩
  cases d with
  | int n =>
    cases r
    simp only at h
    split at h
    · rename_i c
      exact ⟨n, rfl, c.1, c.2, h _ F1 H1 (Go.refl g.ok) walk_rng⟩
    · exact h.elim
  | _ => exact h.elim
/-- over enumerate(list) -/
def enumD (ds : List D) : List D := ds.zipIdx.map fun z => .tup [.int (z.2 : Nat), z.1]
def iEnm (me : Me) : Env' → Rx (List D) := fun env => (me env).bind fun d env1 => match d with
  | .lst l => .ok (enumD l) env1
  | _ => .no
end
end Pu

/-! # Pu10 -/
namespace Pu
open PySem PySem.Spec PyProof.Rows L2
/-! # for -/
def forL (tg : Mg) (body : Ms) : List D → Env' → Out
  | [], env => .nx env
  | d :: ds, env => match tg d env with
    | none => .no
    | some e1 => match body e1 with
      | .nx e2 => forL tg body ds e2
      | .ct e2 => forL tg body ds e2
      | .bk e2 => .nx e2
      | o => o
def sFor (mi : Env' → Rx (List D)) (tg : Mg) (body : Ms) : Ms := fun env => thenS (mi env) fun ds env1 => forL tg body ds env1
section
variable {L : Lay} {E : L2.St → XK} {rm : RM} {X : Cx} {e a b c tg iter : Expr} {body : List Stmt} {pos : Pos}
theorem imS_for {mi : Env' → Rx (List D)} {mg : Mg} {mb : Ms} {ts : List Nat} (hp : PassesOwn (model X.prog X.w) X.A X.env X.xe) (hc : X.calm = true) (hi : ImI L E X tg iter mi) (hg : ImG L X tg ts mg) (hb : ImB L E rm X body mb)
    (hs : ∀ x, foldedSetIterable iter X.env x = pure x := by intro _; rfl) : ImS L E rm X (.For tg iter body [] pos) (sFor mi mg mb) := by
  obtain ⟨wi, pi, ii⟩ := hi
  obtain ⟨g, pg, ig⟩ := hg
  obtain ⟨t, pb, ib⟩ := hb
  refine ⟨_, ps_for hp hc pi pg pb hs, fun Z σ env F H N k h => ii Z σ env F H _ k (PostS.bind h fun ds env1 J F1 H1 g1 wk h => ?_)⟩
  have wk : Walk L F1 J ds := wk
  refine ⟨fun i m σ' H' => m = ds.length - i ∧ i ≤ ds.length ∧ ∃ env' F', Go L Z F1 H1 σ env1 F' H' σ' env' ∧ PostS L Z E (rm Z) σ env1 F1 H1 N (forL mg mb (ds.drop i) env'),
    ⟨ds.length, by simp, Nat.zero_le _, env1, F1, Go.refl g1.ok, by simpa using h⟩, ?_⟩
  rintro i m σ' H' ⟨rfl, hi, env', F', g2, h⟩
  obtain ⟨wi1, wi2⟩ := wk F' H' g2.ff g2.ok.fh
  by_cases hlt : i < ds.length
  · obtain ⟨go, yl⟩ := wi1 i ds[i] (List.getElem?_eq_getElem hlt)
    refine .inr ⟨go, fun σ3 H3 => ds.length - (i + 1) = ds.length - (i + 1) ∧ i + 1 ≤ ds.length ∧ ∃ env' F', Go L Z F1 H1 σ env1 F' H3 σ3 env' ∧ PostS L Z E (rm Z) σ env1 F1 H1 N (forL mg mb (ds.drop (i + 1)) env'),
      fun σ3 H3 w => ⟨ds.length - (i + 1), by omega, w⟩, fun x H'' y => ?_⟩
    obtain ⟨F'', nu⟩ := yl x H'' y
    obtain ⟨g3, rx⟩ := nu.go g2.ok
    have ed : ds.drop i = ds[i] :: ds.drop (i + 1) := List.drop_eq_getElem_cons hlt
    rw [ed, forL] at h
    cases q : mg ds[i] env' with
    | none => rw [q] at h; exact h.elim
    | some e1 =>
      rw [q] at h
      simp only at h
      refine ig Z σ' env' F'' H'' x ds[i] e1 _ g3.ok rx q fun σ4 g4 _ _ => ?_
      have g5 := (g2.trans g3).trans g4
      refine ib Z σ4 e1 F'' H'' _ g5.ok ?_
      cases q2 : mb e1 with
      | nx e2 =>
        rw [q2] at h
        exact fun σ5 F5 H5 g6 => ⟨rfl, hlt, e2, F5, g5.trans g6, h⟩
      | ct e2 =>
        rw [q2] at h
        exact fun σ5 F5 H5 g6 => ⟨rfl, hlt, e2, F5, g5.trans g6, h⟩
      | bk e2 =>
        rw [q2] at h
        exact fun σ5 F5 H5 g6 => h σ5 F5 H5 (g5.trans g6)
      | rt d e2 =>
        rw [q2] at h
        exact fun v σ5 F5 H5 g6 r => h v σ5 F5 H5 (g5.trans g6) ((rm Z).sh (fun a => g5.dn) r)
      | er c fs e2 =>
        rw [q2] at h
        exact fun C a σ5 F5 H5 vs e g6 r1 r2 => h C a σ5 F5 H5 vs e (g5.trans g6) r1 r2
      | no => rw [q2] at h; exact h.elim
  · have e : i = ds.length := by omega
    subst e
    rw [List.drop_length, forL] at h
    exact .inl ⟨wi2, h σ' F' H' g2⟩
end
/-! # while: as long as the fuel lasts -/
def whlL (t : Mt) (body : Ms) : Nat → Env' → Out
  | 0, _ => .no
  | n + 1, env => match t env with
    | .ok true e1 => match body e1 with
      | .nx e2 => whlL t body n e2
      | .ct e2 => whlL t body n e2
      | .bk e2 => .nx e2
      | o => o
    | .ok false e1 => .nx e1
    | .er c fs e => .er c fs e
    | .no => .no
def sWhl (fuel : Env' → Nat) (t : Mt) (body : Ms) : Ms := fun env => whlL t body (fuel env) env
section
variable {L : Lay} {E : L2.St → XK} {rm : RM} {X : Cx} {e a b c tg iter : Expr} {body : List Stmt} {pos : Pos}
theorem imS_while (fuel : Env' → Nat) {mt : Mt} {mb : Ms} (hp : PassesOwn (model X.prog X.w) X.A X.env X.xe) (ht : ImT L E X c mt) (hb : ImB L E rm X body mb) : ImS L E rm X (.While c body [] pos) (sWhl fuel mt mb) := by
  obtain ⟨t, pt, it⟩ := ht
  obtain ⟨tb, pb, ib⟩ := hb
  refine ⟨_, ps_while hp pt pb, fun Z σ env F H N k h => ?_⟩
  refine ⟨fun m σ' H' => ∃ env' F', Go L Z F H σ env F' H' σ' env' ∧ PostS L Z E (rm Z) σ env F H N (whlL mt mb m env'), ⟨fuel env, env, F, Go.refl k, h⟩, ?_⟩
  rintro m σ' H' ⟨env', F', g, h⟩
  cases m with
  | zero => exact h.elim
  | succ m =>
    rw [whlL] at h
    refine it Z σ' env' F' H' _ g.ok ?_
    cases q : mt env' with
    | no => rw [q] at h; exact h.elim
    | er c fs e =>
      rw [q] at h
      exact fun C a F5 H5 vs e1 g6 r1 r2 => h C a σ' F5 H5 vs e1 (g.trans g6) r1 r2
    | ok b e1 =>
      rw [q] at h
      intro v F1 H1 g1 r
      have r : v = b := r
      subst r
      cases v with
      | false => exact iteF (h σ' F1 H1 (g.trans g1))
      | true =>
        refine iteT ⟨fun σ5 H5 => ∃ env' F', Go L Z F H σ env F' H5 σ5 env' ∧ PostS L Z E (rm Z) σ env F H N (whlL mt mb m env'), fun σ5 H5 w => ⟨m, Nat.lt_succ_self _, w⟩, ib Z σ' e1 F1 H1 _ g1.ok ?_⟩
        have g2 := g.trans g1
        simp only at h
        cases q2 : mb e1 with
        | nx e2 =>
          rw [q2] at h
          exact fun σ5 F5 H5 g6 => ⟨e2, F5, g2.trans g6, h⟩
        | ct e2 =>
          rw [q2] at h
          exact fun σ5 F5 H5 g6 => ⟨e2, F5, g2.trans g6, h⟩
        | bk e2 =>
          rw [q2] at h
          exact fun σ5 F5 H5 g6 => h σ5 F5 H5 (g2.trans g6)
        | rt d e2 =>
          rw [q2] at h
          exact fun v σ5 F5 H5 g6 r => h v σ5 F5 H5 (g2.trans g6) ((rm Z).sh (fun a => g2.dn) r)
        | er c fs e2 =>
          rw [q2] at h
          exact fun C a σ5 F5 H5 vs e g6 r1 r2 => h C a σ5 F5 H5 vs e (g2.trans g6) r1 r2
        | no => rw [q2] at h; exact h.elim
end
end Pu

/-! # Pu11 -/
namespace Pu
open PySem PySem.Spec PyProof.Rows L2
/-! # comprehensions -/
def wipeE (env : Env') : List Nat → Env'
  | [] => env
  | v :: vs => (wipeE env vs).set v .no
theorem wipeE_length (env : Env') : ∀ vs : List Nat, (wipeE env vs).length = env.length
  | [] => rfl
  | v :: vs => by unfold wipeE; rw [List.length_set, wipeE_length env vs]
theorem wipe_get (σ : L2.St) (i : Nat) : ∀ vs : List Nat, (wipe σ vs)[i]? = if i ∈ vs ∧ i < σ.length then some none else σ[i]?
  | [] => by simp [wipe]
  | v :: vs => by
    unfold wipe
    by_cases hv : i = v
    · subst hv
      by_cases hi : i < σ.length
      · rw [List.getElem?_set_self (by rw [wipe_length]; exact hi), if_pos ⟨by simp, hi⟩]
      · rw [List.getElem?_eq_none (by rw [List.length_set, wipe_length]; omega), if_neg (fun z => hi z.2), List.getElem?_eq_none (by omega)]
    · rw [List.getElem?_set_ne (Ne.symm hv), wipe_get σ i vs]
      simp [hv]
theorem wipeE_get (env : Env') (i : Nat) : ∀ vs : List Nat, (wipeE env vs)[i]? = if i ∈ vs ∧ i < env.length then some .no else env[i]?
  | [] => by simp [wipeE]
  | v :: vs => by
    unfold wipeE
    by_cases hv : i = v
    · subst hv
      by_cases hi : i < env.length
      · rw [List.getElem?_set_self (by rw [wipeE_length]; exact hi), if_pos ⟨by simp, hi⟩]
      · rw [List.getElem?_eq_none (by rw [List.length_set, wipeE_length]; omega), if_neg (fun z => hi z.2), List.getElem?_eq_none (by omega)]
    · rw [List.getElem?_set_ne (Ne.symm hv), wipeE_get env i vs]
      simp [hv]
theorem wipe_wipe (σ σ' : L2.St) (vs : List Nat) (hl : σ'.length = σ.length) (h : ∀ j, j ∉ vs → σ'[j]? = σ[j]?) : wipe σ' vs = wipe σ vs := by
  apply List.ext_getElem?
  intro j
  rw [wipe_get, wipe_get, hl]
  by_cases hj : j ∈ vs
  · by_cases hi : j < σ.length
    · rw [if_pos ⟨hj, hi⟩, if_pos ⟨hj, hi⟩]
    · rw [if_neg (fun z => hi z.2), if_neg (fun z => hi z.2), List.getElem?_eq_none (by omega), List.getElem?_eq_none (by omega)]
  · rw [if_neg (fun z => hj z.1), if_neg (fun z => hj z.1), h j hj]
section
variable {L : Lay} {Z F H F' H' : Hp} {σ σ' : L2.St} {env env' : Env'}
/-- forgetting slots, on both sides -/
theorem Go.wipe (k : Ok L Z F H σ env) (vs : List Nat) : Go L Z F H σ env F H (L2.wipe σ vs) (wipeE env vs) := by
  have mu' : ∀ i a, Mu (L2.wipe σ vs) (wipeE env vs) i a → Mu σ env i a := fun i a ⟨h1, h2⟩ => by
    rw [wipe_get] at h1
    rw [wipeE_get] at h2
    split at h1
    · cases h1
    · rename_i n
      rw [if_neg (fun z => n ⟨z.1, by rw [k.len]; exact z.2⟩)] at h2
      exact ⟨h1, h2⟩
  refine ⟨Same.refl _, fun _ _ e _ _ => e, fun _ _ _ _ _ => rfl, fun _ o e t => ⟨o, e, t⟩, fun i a m => .inl ⟨i, mu' i a m⟩, fun j d' e => ?_, k.fh, k.tb, k.nt, k.zh, by rw [wipe_length, wipeE_length]; exact k.len, fun i s e h1 h2 => ?_, fun i j p a b => k.ds i j p (mu' _ _ a) (mu' _ _ b)⟩
  · rw [wipeE_get] at e
    split at e
    · cases e
    · rename_i n
      rw [wipe_get, if_neg (fun z => n ⟨z.1, by rw [← k.len]; exact z.2⟩)]
      exact ⟨rfl, d', e⟩
  · rw [wipe_get] at h1
    rw [wipeE_get] at h2
    split at h2
    · cases h2
      cases s <;> trivial
    · rename_i n
      rw [if_neg (fun z => n ⟨z.1, by rw [← k.len]; exact z.2⟩)] at h1
      exact k.sl i s e h1 h2
/-- the slots in vs hold data at most -/
def datAt (env : Env') (vs : List Nat) : Bool := vs.all fun i => match env[i]? with
  | some (.own _) => false
  | some (.io _) => false
  | _ => true
def backE (env env' : Env') : List Nat → Env'
  | [] => env'
  | v :: vs => (backE env env' vs).set v (env.getD v .no)
theorem backE_length (env env' : Env') : ∀ vs : List Nat, (backE env env' vs).length = env'.length
  | [] => rfl
  | v :: vs => by unfold backE; rw [List.length_set, backE_length env env' vs]
theorem backE_get (env env' : Env') (i : Nat) : ∀ vs : List Nat, (backE env env' vs)[i]? = if i ∈ vs ∧ i < env'.length then some (env.getD i .no) else env'[i]?
  | [] => by simp [backE]
  | v :: vs => by
    unfold backE
    by_cases hv : i = v
    · subst hv
      by_cases hi : i < env'.length
      · rw [List.getElem?_set_self (by rw [backE_length]; exact hi), if_pos ⟨by simp, hi⟩]
      · rw [List.getElem?_eq_none (by rw [List.length_set, backE_length]; omega), if_neg (fun z => hi z.2), List.getElem?_eq_none (by omega)]
    · rw [List.getElem?_set_ne (Ne.symm hv), backE_get env env' i vs]
      simp [hv]
/-- behind a block: its own slots as they were -/
theorem Go.back (k : Ok L Z F H σ env) {vs : List Nat} (hd : datAt env vs = true) (g : Go L Z F H (L2.wipe σ vs) (wipeE env vs) F' H' (L2.wipe σ vs) env') : Go L Z F H σ env F' H' σ (backE env env' vs) := by
  have hd' : ∀ i ∈ vs, ∀ d, env[i]? ≠ some (.own d) ∧ env[i]? ≠ some (.io d) := fun i hi d => by
    have := List.all_eq_true.mp hd i hi
    constructor
    · intro e; simp [e] at this
    · intro e; simp [e] at this
  have len : env'.length = env.length := by rw [← g.ok.len, wipe_length, k.len]
  have gd : ∀ i, i < env.length → env[i]? = some (env.getD i .no) := fun i hi => by
    rw [List.getElem?_eq_getElem hi]
    simp [List.getD, hi]
  have mu' : ∀ i a, Mu σ (backE env env' vs) i a → Mu (L2.wipe σ vs) env' i a ∧ i ∉ vs := fun i a ⟨h1, h2⟩ => by
    rw [backE_get] at h2
    by_cases hi : i ∈ vs
    · have hl : i < env'.length := by
        rw [len, ← k.len]
        exact (List.getElem?_eq_some_iff.mp h1).1
      rw [if_pos ⟨hi, hl⟩, ← gd i (by omega)] at h2
      rcases h2 with ⟨d, h2⟩ | ⟨d, h2⟩
      · exact absurd h2 (hd' i hi d).1
      · exact absurd h2 (hd' i hi d).2
    · rw [if_neg (fun z => hi z.1)] at h2
      exact ⟨⟨by rw [wipe_get, if_neg (fun z => hi z.1)]; exact h1, h2⟩, hi⟩
  have muw : ∀ i a, Mu (L2.wipe σ vs) (wipeE env vs) i a → Mu σ env i a := fun i a ⟨h1, h2⟩ => by
    rw [wipe_get] at h1
    rw [wipeE_get] at h2
    split at h1
    · cases h1
    · rename_i n
      rw [if_neg (fun z => n ⟨z.1, by rw [k.len]; exact z.2⟩)] at h2
      exact ⟨h1, h2⟩
  refine ⟨g.ff, fun a o e t n => g.kp a o e t fun i m => n i (muw i a m), fun a o e t n => g.fr a o e t fun i m => n i (muw i a m), g.dm, fun i a m => ?_, fun j d' e => ?_, g.ok.fh, g.ok.tb, g.ok.nt, g.ok.zh, by rw [backE_length, len]; exact k.len, fun i s e h1 h2 => ?_, fun i j p a b => g.ok.ds i j p (mu' _ _ a).1 (mu' _ _ b).1⟩
  · rcases g.mm i a (mu' i a m).1 with ⟨j, m'⟩ | z
    · exact .inl ⟨j, muw j a m'⟩
    · exact .inr z
  · rw [backE_get] at e
    split at e
    · rename_i c
      rw [← gd j (by omega)] at e
      exact absurd e (hd' j c.1 d').2
    · rename_i n
      obtain ⟨_, d, e2⟩ := g.io j d' e
      rw [wipeE_get] at e2
      split at e2
      · cases e2
      · exact ⟨rfl, d, e2⟩
  · rw [backE_get] at h2
    split at h2
    · rename_i c
      rw [← gd i (by omega)] at h2
      have := k.sl i s e h1 h2
      refine this.mono g.ff fun p hx he => ?_
      rcases he with ⟨d, rfl⟩ | ⟨d, rfl⟩
      · exact absurd h2 (hd' i c.1 d).1
      · exact absurd h2 (hd' i c.1 d).2
    · rename_i n
      refine g.ok.sl i s e ?_ h2
      rw [wipe_get, if_neg (fun z => n ⟨z.1, by rw [len, ← k.len]; exact z.2⟩)]
      exact h1
end
/-- a thing beside, new since the start, takes another content -/
theorem Go.side {L : Lay} {Z F H F' H' : Hp} {σ σ' : L2.St} {env env' : Env'} (g : Go L Z F H σ env F' H' σ' env') {p : Addr} (o : HO) (hl : H' p = none ∨ ∃ xs, H' p = some (.lst xs)) (was : H p = none) (nf : F' p = none) (nm : ∀ i, ¬ Mu σ' env' i p) (no : ∀ ps, o ≠ .tbl ps := by intro _ z; cases z) : Go L Z F H σ env F' (upd H' p o) σ' env' := by
  have np : ∀ a u, H a = some u → a ≠ p := fun a u e z => by
    rw [z, was] at e
    cases e
  refine ⟨g.ff, fun a u e t n => by rw [upd_ne (np a u e)]; exact g.kp a u e t n, g.fr, fun a u e t => by rw [upd_ne (np a u e)]; exact g.dm a u e t, g.mm, g.io, fun b u e => ?_, hl.elim (fun z => g.ok.tb.ext (same_upd z)) (fun ⟨_, z⟩ => Tb.upd0 g.ok.tb z (fun _ z => nomatch z) fun _ z => nomatch z), g.ok.nt, fun a e => ?_, g.ok.len, fun i s e h1 h2 => ?_, g.ok.ds⟩
  · rw [upd_ne (fun z => by rw [z, nf] at e; cases e)]
    exact g.ok.fh _ _ e
  · refine g.ok.zh a (none_of fun u e1 => ?_)
    obtain ⟨e2, t⟩ := cut_of e1
    by_cases h : a = p
    · subst h
      exact cut_not e upd_same (.inr no)
    · exact cut_not e (by rw [upd_ne h]; exact e2) t
  · refine (g.ok.sl i s e h1 h2).mono (Same.refl _) fun q hx he => ?_
    have mq := mu_of h1 h2 hx he
    refine ⟨(g.ok.mu mq).1, fun u eu => ?_⟩
    rw [upd_ne (fun z => nm i (by rw [← z]; exact mq))]
    exact eu
def lcL (tg : Mg) (tt : Mt) (me : Me) (vs : List Nat) : List D → List D → Env' → Rx (List D)
  | [], acc, env => .ok acc env
  | d :: ds, acc, env => match tg d env with
    | none => .no
    | some e1 => match tt e1 with
      | .ok true e2 => match me e2 with
        | .ok y e3 => if acc.length < sizeLine then lcL tg tt me vs ds (acc ++ [y]) (wipeE e3 vs) else .no
        | _ => .no
      | .ok false e2 => lcL tg tt me vs ds acc (wipeE e2 vs)
      | _ => .no
def mLc (mi : Env' → Rx (List D)) (tg : Mg) (tt : Mt) (me : Me) (vs : List Nat) : Me := fun env => (mi env).bind fun ds env1 => if datAt env1 vs = true then
  (lcL tg tt me vs ds [] (wipeE env1 vs)).bind fun acc env2 => .ok (.lst acc) (backE env1 env2 vs) else .no
def tYs : Mt := fun env => .ok true env
abbrev EF : L2.St → XK := fun _ => E0
section
variable {L : Lay} {E : L2.St → XK} {rm : RM} {X : Cx} {e elt tg iter : Expr} {ifs : List Expr} {scope : Scope} {own : List (Str × Nat)} {pos spos py : Pos}
/-- what a comprehension's block asks -/
structure ImC (L : Lay) (E : L2.St → XK) (X : Cx) (elt tg iter : Expr) (ifs : List Expr) (scope : Scope) (own : List (Str × Nat)) (mi : Env' → Rx (List D)) (mg : Mg) (mt : Mt) (me : Me) (wi : TI) (g : TG) (tt : TT) (te : TE) : Prop where
  pi : PI X tg iter wi
  ii : Im L E (rWalk L) wi mi
  pg : ∀ (s : Shared) (H : Hp) (C : Addr) (cl : List (Str × Addr)) (fp : List Addr), PG (X.blk s H scope (compEnvC scope cl C X.env) fp) tg g
  ig : ∀ (Z : Hp) (σ : L2.St) (env : Env') (F H : Hp) (v : V) (d : D) (env' : Env') (Q : L2.St → Hp → Prop), Ok L Z F H σ env → Rep L F v d → mg d env = some env' →
    (∀ σ', Go L Z F H σ env F H σ' env' → σ'.length = σ.length → (∀ j, j ∉ own.map (·.2) → σ'[j]? = σ[j]?) → Q σ' H) → g v σ H Q
  pt : ∀ (s : Shared) (H : Hp) (C : Addr) (cl : List (Str × Addr)) (fp : List Addr), PTs (X.blk s H scope (compEnvC scope cl C X.env) fp) ifs tt
  it : Im L EF rBool tt mt
  pe : ∀ (s : Shared) (H : Hp) (C : Addr) (cl : List (Str × Addr)) (fp : List Addr), PE (X.blk s H scope (compEnvC scope cl C X.env) fp) elt te
  ie : Im L EF (rDat L) te me
theorem lc_in {mi : Env' → Rx (List D)} {mg : Mg} {mt : Mt} {me : Me} {wi : TI} {g : TG} {tt : TT} {te : TE} (C : ImC L E X elt tg iter ifs scope own mi mg mt me wi g tt te) : Im L E (rOwn L) (tLc wi g tt te (own.map (·.2))) (mLc mi mg mt me (own.map (·.2))) := fun Z σ env F H Q k h => by
  generalize hvs : own.map (·.2) = vs at h ⊢
  have cig := C.ig
  rw [hvs] at cig
  refine C.ii Z σ env F H _ k (Post.bindAt (Go.refl k) h fun ds env1 J F1 H1 g1 wk h => ?_)
  have wk : Walk L F1 J ds := wk
  intro D hD
  by_cases hd : datAt env1 vs = true
  case neg => rw [if_neg hd] at h; exact h.elim
  rw [if_pos hd] at h
  have nF1 : F1 D = none := g1.ok.free hD
  have g0 := Go.wipe g1.ok vs
  have nmD : ∀ i, ¬ Mu (wipe σ vs) (wipeE env1 vs) i D := fun i => g0.ok.nomu (cut_none hD) i
  refine ⟨fun i m H' => m = ds.length - i ∧ i ≤ ds.length ∧ ∃ env' F' vsD acc, Go L Z F1 H1 (wipe σ vs) (wipeE env1 vs) F' H' (wipe σ vs) env' ∧ F' D = none ∧ (∀ i, ¬ Mu (wipe σ vs) env' i D) ∧ H' D = some (.lst vsD) ∧ RepA L F' vsD acc ∧
      Post L Z E σ env F H (rOwn L) Q ((lcL mg mt me vs (ds.drop i) acc env').bind fun acc env2 => .ok (.lst acc) (backE env1 env2 vs)),
    ⟨ds.length, by simp, Nat.zero_le _, wipeE env1 vs, F1, [], [], Go.side (Go.refl g0.ok) _ (.inl hD) hD nF1 nmD, nF1, nmD, upd_same, .nil, by simpa using h⟩, ?_⟩
  rintro i m H' ⟨rfl, hi, env', F', vsD, acc, g4, nF', nm', hD', ra, h⟩
  obtain ⟨wi1, wi2⟩ := wk F' H' g4.ff g4.ok.fh
  by_cases hlt : i < ds.length
  · obtain ⟨go, yl⟩ := wi1 i ds[i] (List.getElem?_eq_getElem hlt)
    refine .inr ⟨go, fun H3 => ds.length - (i + 1) = ds.length - (i + 1) ∧ i + 1 ≤ ds.length ∧ ∃ env' F' vsD acc, Go L Z F1 H1 (wipe σ vs) (wipeE env1 vs) F' H3 (wipe σ vs) env' ∧ F' D = none ∧ (∀ i, ¬ Mu (wipe σ vs) env' i D) ∧ H3 D = some (.lst vsD) ∧ RepA L F' vsD acc ∧
      Post L Z E σ env F H (rOwn L) Q ((lcL mg mt me vs (ds.drop (i + 1)) acc env').bind fun acc env2 => .ok (.lst acc) (backE env1 env2 vs)),
      fun H3 w => ⟨ds.length - (i + 1), by omega, w⟩, fun x H'' y => ?_⟩
    obtain ⟨F'', nu⟩ := yl x H'' y
    obtain ⟨g5, rx⟩ := nu.go g4.ok
    have ed : ds.drop i = ds[i] :: ds.drop (i + 1) := List.drop_eq_getElem_cons hlt
    rw [ed, lcL] at h
    cases q : mg ds[i] env' with
    | none => rw [q] at h; exact h.elim
    | some e1 =>
      rw [q] at h
      try simp only at h
      refine cig Z (wipe σ vs) env' F'' H'' x ds[i] e1 _ g5.ok rx q fun σ4 g6 l4 n6 => ?_
      have hw : wipe σ4 vs = wipe σ vs := by
        rw [wipe_wipe (wipe σ vs) σ4 vs l4 n6]
        exact wipe_wipe σ (wipe σ vs) vs (wipe_length σ vs) fun j hj => by rw [wipe_get, if_neg (fun z => hj z.1)]
      refine ⟨hw, ?_⟩
      have g7 := (g4.trans g5).trans g6
      -- the new list through the block's evaluations
      have step : ∀ {F7 H7 F8 H8 : Hp} {σ7 : L2.St} {e7 e8 : Env'}, (H7 D = some (.lst vsD)) → F7 D = none → (∀ i, ¬ Mu σ7 e7 i D) → Go L Z F7 H7 σ7 e7 F8 H8 σ7 e8 → H8 D = some (.lst vsD) ∧ F8 D = none ∧ ∀ i, ¬ Mu σ7 e8 i D := fun {F7 H7 F8 H8 σ7 e7 e8} a b c g => by
        refine ⟨g.kp _ _ a (.inr fun _ z => nomatch z) c, by rw [g.fr _ _ a (.inr fun _ z => nomatch z) c]; exact b, fun i m => ?_⟩
        rcases g.mm i D m with ⟨j, m'⟩ | z
        · exact c j m'
        · exact (cut_not z a (.inr fun _ z => nomatch z)).elim
      have d5 : H'' D = some (.lst vsD) := g5.kp _ _ hD' (.inr fun _ z => nomatch z) nm'
      have f5 : F'' D = none := by rw [g5.fr _ _ hD' (.inr fun _ z => nomatch z) nm']; exact nF'
      have m6 : ∀ i, ¬ Mu σ4 e1 i D := fun i m => by
        rcases (g5.trans g6).mm i D m with ⟨j, m'⟩ | z
        · exact nm' j m'
        · exact (cut_not z hD' (.inr fun _ z => nomatch z)).elim
      refine C.it Z σ4 e1 F'' H'' _ g6.ok ?_
      cases q2 : mt e1 with
      | no => rw [q2] at h; exact h.elim
      | er c fs e => rw [q2] at h; exact h.elim
      | ok b e2 =>
        rw [q2] at h
        try simp only at h
        intro bv F8 H8 g8 rb
        have rb : bv = b := rb
        subst rb
        obtain ⟨d8, f8, m8⟩ := step d5 f5 m6 g8
        cases bv with
        | false =>
          have g9 := Go.wipe g8.ok vs
          rw [hw] at g9
          refine iteF ⟨rfl, hlt, wipeE e2 vs, F8, vsD, acc, (g7.trans g8).trans g9, f8, fun i m => ?_, d8, ra.mono ((g5.ff.trans g6.ff).trans g8.ff), h⟩
          rcases g9.mm i D m with ⟨j, m'⟩ | z
          · exact m8 j m'
          · exact (cut_not z d8 (.inr fun _ z => nomatch z)).elim
        | true =>
          refine iteT (C.ie Z σ4 e2 F8 H8 _ g8.ok ?_)
          try simp only at h
          cases q3 : me e2 with
          | no => rw [q3] at h; exact h.elim
          | er c fs e => rw [q3] at h; exact h.elim
          | ok y e3 =>
            rw [q3] at h
            try simp only at h
            intro yv F9 H9 g9 ry
            obtain ⟨d9, f9, m9⟩ := step d8 f8 m8 g9
            by_cases hz : acc.length < sizeLine
            case neg => rw [if_neg hz] at h; exact h.elim
            rw [if_pos hz] at h
            have g10 := Go.wipe g9.ok vs
            rw [hw] at g10
            have m10 : ∀ i, ¬ Mu (wipe σ vs) (wipeE e3 vs) i D := fun i m => by
              rcases g10.mm i D m with ⟨j, m'⟩ | z
              · exact m9 j m'
              · exact (cut_not z d9 (.inr fun _ z => nomatch z)).elim
            have ra9 := ra.mono (((g5.ff.trans g6.ff).trans g8.ff).trans g9.ff)
            exact ⟨vsD, d9, by rw [ra.length]; exact hz, rfl, hlt, wipeE e3 vs, F9, vsD ++ [yv], acc ++ [y], Go.side (((g7.trans g8).trans g9).trans g10) _ (.inr ⟨_, d9⟩) hD f9 m10, f9, m10, upd_same, ra9.append (.cons ry .nil), h⟩
  · have e : i = ds.length := by omega
    subst e
    rw [List.drop_length, lcL] at h
    refine .inl ⟨wi2, ?_⟩
    have gb := Go.back g1.ok hd g4
    refine h (.ref D) F' H' (g1.trans gb) ⟨D, rfl, g1.dn (cut_none hD), nF', ⟨vsD, hD', ra⟩, fun i m => ?_⟩
    rcases gb.mm i D m with ⟨j, m'⟩ | z
    · exact g1.ok.nomu (cut_none hD) j m'
    · obtain ⟨h1, h2⟩ := m
      rw [backE_get] at h2
      by_cases hv : i ∈ vs ∧ i < env'.length
      · rw [if_pos hv] at h2
        have := List.all_eq_true.mp hd i hv.1
        rcases h2 with ⟨d, h2⟩ | ⟨d, h2⟩
        all_goals
          have e0 : env1[i]? = some (env1.getD i .no) := by
            have : i < env1.length := by
              rw [← wipeE_length env1 vs, ← g0.ok.len, g4.ok.len]
              exact hv.2
            rw [List.getElem?_eq_getElem this]
            simp [List.getD, this]
          rw [h2] at e0
          simp [e0] at this
      · rw [if_neg hv] at h2
        have hi2 : i ∉ vs := fun z => hv ⟨z, by rw [← g4.ok.len, wipe_length]; exact (List.getElem?_eq_some_iff.mp h1).1⟩
        exact nm' i ⟨by rw [wipe_get, if_neg (fun z => hi2 z.1)]; exact h1, h2⟩
end
end Pu

/-! # Pu12 -/
namespace Pu
open PySem PySem.Spec PyProof.Rows L2
/-! # the readings that meanings give by themselves -/
def tCan (L : Lay) (E : L2.St → XK) {β α : Type} (rl : Rl β α) (m : Env' → Rx α) : L2.St → Hp → (β → Hp → Prop) → Prop := fun σ H Q => ∃ Z env F, Ok L Z F H σ env ∧ Post L Z E σ env F H rl Q (m env)
theorem can_im {L : Lay} {E : L2.St → XK} {β α : Type} {rl : Rl β α} {m : Env' → Rx α} : Im L E rl (tCan L E rl m) m := fun Z σ env F H Q k h => ⟨Z, env, F, k, h⟩
def gCan (L : Lay) (ts : List Nat) (m : Mg) : TG := fun v σ H Q => ∃ Z env F d env', Ok L Z F H σ env ∧ Rep L F v d ∧ m d env = some env' ∧ ∀ σ', Go L Z F H σ env F H σ' env' → σ'.length = σ.length → (∀ j, j ∉ ts → σ'[j]? = σ[j]?) → Q σ' H
section
variable {L : Lay} {E : L2.St → XK} {rm : RM} {X : Cx} {e elt tg iter : Expr} {ifs : List Expr} {scope : Scope} {own : List (Str × Nat)} {pos spos py : Pos} {m : Me}
theorem ImE.can (h : ImE L E X e m) : PE X e (tCan L E (rDat L) m) := by
  obtain ⟨t, p, i⟩ := h
  exact ⟨fun pins s σ H Q I ⟨Z, env, F, k, q⟩ => p.run pins s σ H Q I (i Z σ env F H Q k q)⟩
theorem ImT.can {m : Mt} (h : ImT L E X e m) : PT X e (tCan L E rBool m) := by
  obtain ⟨t, p, i⟩ := h
  exact ⟨fun pins s σ H Q I ⟨Z, env, F, k, q⟩ => p.run pins s σ H Q I (i Z σ env F H Q k q)⟩
theorem ImI.can {m : Env' → Rx (List D)} (h : ImI L E X tg e m) : PI X tg e (tCan L E (rWalk L) m) := by
  obtain ⟨t, p, i⟩ := h
  exact ⟨fun pins s σ H Q I ⟨Z, env, F, k, q⟩ => p.run pins s σ H Q I (i Z σ env F H Q k q)⟩
theorem ImG.can {m : Mg} {ts : List Nat} (h : ImG L X tg ts m) : PG X tg (gCan L ts m) := by
  obtain ⟨g, p, i⟩ := h
  exact ⟨fun pins s σ H v u Q I r ⟨Z, env, F, d, env', k, rd, e, q⟩ => p.run pins s σ H v u Q I r (i Z σ env F H v d env' Q k rd e q)⟩
/-- the tests of a comprehension -/
def ImTs (L : Lay) (E : L2.St → XK) (X : Cx) (ifs : List Expr) (m : Mt) : Prop := ∃ t, PTs X ifs t ∧ Im L E rBool t m
theorem ImTs.can {m : Mt} (h : ImTs L E X ifs m) : PTs X ifs (tCan L E rBool m) := by
  obtain ⟨t, p, i⟩ := h
  exact ⟨fun pins s σ H Q I ⟨Z, env, F, k, q⟩ => p.run pins s σ H Q I (i Z σ env F H Q k q)⟩
theorem imTs_nil : ImTs L E X [] tYs := ⟨_, pts_nil, fun Z σ env F H Q k h => h true F H (Go.refl k) rfl⟩
theorem imTs_one {m : Mt} (h : ImT L E X e m) : ImTs L E X [e] m := by
  obtain ⟨t, p, i⟩ := h
  exact ⟨_, pts_one p, i⟩
/-- [elt for tg in iter if ..] -/
theorem imO_lc {mi : Env' → Rx (List D)} {mg : Mg} {mt : Mt} {me : Me} {ts : List Nat} (hc : X.calm = true) (hN : X.N.Nodup) (hi : ImI L E X tg iter mi) (ok : BlkOk X.N X.env.scope scope own)
    (hg : ∀ (s : Shared) (H : Hp) (C : Addr) (cl : List (Str × Addr)) (fp : List Addr), ImG L (X.blk s H scope (compEnvC scope cl C X.env) fp) tg ts mg)
    (ht : ∀ (s : Shared) (H : Hp) (C : Addr) (cl : List (Str × Addr)) (fp : List Addr), ImTs L EF (X.blk s H scope (compEnvC scope cl C X.env) fp) ifs mt)
    (he : ∀ (s : Shared) (H : Hp) (C : Addr) (cl : List (Str × Addr)) (fp : List Addr), ImE L EF (X.blk s H scope (compEnvC scope cl C X.env) fp) elt me)
    (hts : ∀ j ∈ ts, j ∈ own.map (·.2) := by decide) (hs : ∀ x, foldedSetIterable iter X.env x = pure x := by intro _; rfl) : ImO L E X (.ListComp elt [⟨tg, iter, ifs, 0⟩] scope pos) (mLc mi mg mt me (own.map (·.2))) := by
  obtain ⟨wi, pi, ii⟩ := hi
  refine ⟨_, pe_lc hc hN pi ok (fun s H C cl fp => (hg s H C cl fp).can) (fun s H C cl fp => (ht s H C cl fp).can) (fun s H C cl fp => (he s H C cl fp).can) hs, ?_⟩
  exact lc_in (X := X) (elt := elt) (tg := tg) (iter := iter) (ifs := ifs) (scope := scope) (own := own) ⟨pi, ii, fun s H C cl fp => (hg s H C cl fp).can, fun Z σ env F H v d env' Q k r e q => ⟨Z, env, F, d, env', k, r, e, fun σ' g l n => q σ' g l fun j hj => n j fun z => hj (hts j z)⟩,
    fun s H C cl fp => (ht s H C cl fp).can, can_im, fun s H C cl fp => (he s H C cl fp).can, can_im⟩
end
end Pu

/-! # Pu13 -/
namespace Pu
open PySem PySem.Spec PyProof.Rows L2
/-! # defs: what a call comes to; io: the parameters that are changed -/
inductive Rz where
  | ok (d : D) (ios : List D) | er (c : Nat) (fs : List (Nat × D)) (ios : List D) | no
/-- io parameters: their places -/
inductive ArgR (L : Lay) (F H : Hp) : List Bool → List V → List D → Prop
  | nil : ArgR L F H [] [] []
  | dat {v : V} {d : D} {ms : List Bool} {vs : List V} {ds : List D} (h : Rep L F v d) (r : ArgR L F H ms vs ds) : ArgR L F H (false :: ms) (v :: vs) (d :: ds)
  | io {p : Addr} {d : D} {ms : List Bool} {vs : List V} {ds : List D} (nf : F p = none) (ow : Own L F H p d) (r : ArgR L F H ms vs ds) : ArgR L F H (true :: ms) (.ref p :: vs) (d :: ds)
/-- the addresses handed in to be changed -/
def ioA : List Bool → List V → List Addr
  | true :: ms, .ref p :: vs => p :: ioA ms vs
  | _ :: ms, _ :: vs => ioA ms vs
  | _, _ => []
/-- what they hold behind -/
inductive IoR (L : Lay) (F H : Hp) : List Addr → List D → Prop
  | nil : IoR L F H [] []
  | cons {p : Addr} {d : D} {ps : List Addr} {ds : List D} (nf : F p = none) (ow : Own L F H p d) (r : IoR L F H ps ds) : IoR L F H (p :: ps) (d :: ds)
structure GoF (L : Lay) (ps : List Addr) (F H F' H' : Hp) (ios : List D) : Prop where
  ff : Same F F'
  fh : Same F' H'
  tb : LamX.Tabs L.tabs H'
  nt : NtF L F'
  kp : ∀ a o, H a = some o → NoT L o → a ∉ ps → H' a = some o
  fr : ∀ a o, H a = some o → NoT L o → a ∉ ps → F' a = F a
  dm : ∀ a o, H a = some o → NoT L o → ∃ o', H' a = some o' ∧ NoT L o'
  io : IoR L F' H' ps ios
def ResR (L : Lay) (o : Bool) (H F' H' : Hp) (v : V) (d : D) : Prop :=
  if o = true then ∃ p, v = .ref p ∧ H p = none ∧ F' p = none ∧ Own L F' H' p d else Rep L F' v d
def PostF (L : Lay) (o : Bool) (ps : List Addr) (F H : Hp) (Q : VK) (E : XK) : Rz → Prop
  | .ok d ios => ∀ v F' H', GoF L ps F H F' H' ios → ResR L o (cutL L H) F' H' v d → Q v H'
  | .er c fs ios => ∀ C a F' H' us, L.xcs[c]? = some C → GoF L ps F H F' H' ios → Det H' a us → RepF L F' us fs → E (.ref C) a H'
  | .no => False
/-- the promise of a def with such a meaning -/
def spF (L : Lay) (ms : List Bool) (o : Bool) (φ : List D → Rz) : Sp := fun vs H Q E => ∃ ds F, (Same F H ∧ LamX.Tabs L.tabs H ∧ NtF L F) ∧ ArgR L F H ms vs ds ∧ (ioA ms vs).Nodup ∧ PostF L o (ioA ms vs) F H Q E (φ ds)
def startE : List Bool → Nat → List D → Env'
  | m :: ms, n + 1, d :: ds => (if m then .io d else .dat d) :: startE ms n ds
  | _, n, _ => List.replicate n .no
def iosE : List Bool → Env' → Option (List D)
  | [], _ => some []
  | false :: ms, _ :: env => iosE ms env
  | true :: ms, .io d :: env => (iosE ms env).map (d :: ·)
  | _, _ => none
def runF (ms : List Bool) (n : Nat) (m : Ms) (ds : List D) : Rz := match m (startE ms n ds) with
  | .nx e => match iosE ms e with
    | some ios => .ok .non ios
    | none => .no
  | .rt d e => match iosE ms e with
    | some ios => .ok d ios
    | none => .no
  | .er c fs e => match iosE ms e with
    | some ios => .er c fs ios
    | none => .no
  | _ => .no
section
variable {L : Lay} {F H F' H' : Hp}
theorem ArgR.length : ∀ {ms : List Bool} {vs : List V} {ds : List D}, ArgR L F H ms vs ds → vs.length = ms.length ∧ ds.length = ms.length
  | _, _, _, .nil => ⟨rfl, rfl⟩
  | _, _, _, .dat _ r => by simp [r.length.1, r.length.2]
  | _, _, _, .io _ _ r => by simp [r.length.1, r.length.2]
theorem startE_get : ∀ {ms : List Bool} {n : Nat} {ds : List D} {i : Nat} {e : Sl}, (startE ms n ds)[i]? = some e → (e = .no) ∨ (∃ d, ms[i]? = some false ∧ ds[i]? = some d ∧ e = .dat d) ∨ ∃ d, ms[i]? = some true ∧ ds[i]? = some d ∧ e = .io d
  | m :: ms, n + 1, d :: ds, 0, e, h => by
    simp only [startE, List.getElem?_cons_zero, Option.some.injEq] at h
    cases m
    · exact .inr (.inl ⟨d, by simp, by simp, by simpa using h.symm⟩)
    · exact .inr (.inr ⟨d, by simp, by simp, by simpa using h.symm⟩)
  | m :: ms, n + 1, d :: ds, i + 1, e, h => by
    simp only [startE, List.getElem?_cons_succ] at h
    have := startE_get h
    simpa using this
  | [], n, ds, i, e, h => by
    have h : (List.replicate n Sl.no)[i]? = some e := by
      cases n <;> exact h
    exact .inl (List.eq_of_mem_replicate (List.mem_of_getElem? h))
  | m :: ms, 0, ds, i, e, h => by
    have h : (List.replicate 0 Sl.no)[i]? = some e := h
    simp at h
  | m :: ms, n + 1, [], i, e, h => by
    have h : (List.replicate (n + 1) Sl.no)[i]? = some e := h
    exact .inl (List.eq_of_mem_replicate (List.mem_of_getElem? h))
theorem startE_length : ∀ (ms : List Bool) (n : Nat) (ds : List D), (startE ms n ds).length = n
  | m :: ms, n + 1, d :: ds => by simp [startE, startE_length ms n ds]
  | [], n, ds => by cases n <;> simp [startE]
  | m :: ms, 0, ds => by simp [startE]
  | m :: ms, n + 1, [] => by simp [startE]
theorem ArgR.get : ∀ {ms : List Bool} {vs : List V} {ds : List D} {i : Nat} {d : D}, ArgR L F H ms vs ds → ds[i]? = some d → (ms[i]? = some false ∧ ∃ v, vs[i]? = some v ∧ Rep L F v d) ∨ (ms[i]? = some true ∧ ∃ p, vs[i]? = some (.ref p) ∧ F p = none ∧ Own L F H p d)
  | _, _, _, _, _, .nil, e => by simp at e
  | _, _, _, 0, _, .dat h r, e => by simp at e; subst e; exact .inl ⟨by simp, _, by simp, h⟩
  | _, _, _, 0, _, .io a b r, e => by simp at e; subst e; exact .inr ⟨by simp, _, by simp, a, b⟩
  | _, _, _, i + 1, _, .dat h r, e => by simpa using r.get (i := i) (by simpa using e)
  | _, _, _, i + 1, _, .io a b r, e => by simpa using r.get (i := i) (by simpa using e)
theorem mem_ioA : ∀ {ms : List Bool} {vs : List V} {p : Addr}, p ∈ ioA ms vs ↔ ∃ i : Nat, ms[i]? = some true ∧ vs[i]? = some (.ref p)
  | [], vs, p => by simp [ioA]
  | true :: ms, [], p => by simp [ioA]
  | false :: ms, [], p => by simp [ioA]
  | true :: ms, v :: vs, p => by
    have ih := mem_ioA (ms := ms) (vs := vs) (p := p)
    cases v with
    | ref q =>
      rw [show ioA (true :: ms) (V.ref q :: vs) = q :: ioA ms vs from rfl, List.mem_cons, ih]
      constructor
      · rintro (rfl | ⟨i, h1, h2⟩)
        · exact ⟨0, by simp, by simp⟩
        · exact ⟨i + 1, by simpa using h1, by simpa using h2⟩
      · rintro ⟨i, h1, h2⟩
        cases i with
        | zero => simp at h2; exact .inl h2.symm
        | succ i => exact .inr ⟨i, by simpa using h1, by simpa using h2⟩
    | _ =>
      all_goals
        rw [show ioA (true :: ms) (_ :: vs) = ioA ms vs from rfl, ih]
        constructor
        · rintro ⟨i, h1, h2⟩
          exact ⟨i + 1, by simpa using h1, by simpa using h2⟩
        · rintro ⟨i, h1, h2⟩
          cases i with
          | zero => simp at h2
          | succ i => exact ⟨i, by simpa using h1, by simpa using h2⟩
  | false :: ms, v :: vs, p => by
    have ih := mem_ioA (ms := ms) (vs := vs) (p := p)
    rw [show ioA (false :: ms) (v :: vs) = ioA ms vs by cases v <;> rfl, ih]
    constructor
    · rintro ⟨i, h1, h2⟩
      exact ⟨i + 1, by simpa using h1, by simpa using h2⟩
    · rintro ⟨i, h1, h2⟩
      cases i with
      | zero => simp at h1
      | succ i => exact ⟨i, by simpa using h1, by simpa using h2⟩
theorem ioA_ix : ∀ {ms : List Bool} {vs : List V} {p : Addr} {i j : Nat}, (ioA ms vs).Nodup → ms[i]? = some true → vs[i]? = some (.ref p) → ms[j]? = some true → vs[j]? = some (.ref p) → i = j
  | [], _, _, _, _, _, h, _, _, _ => by simp at h
  | _ :: _, [], _, _, _, _, _, h, _, _ => by simp at h
  | m :: ms, v :: vs, p, 0, 0, _, _, _, _, _ => rfl
  | m :: ms, v :: vs, p, i + 1, j + 1, n, h1, h2, h3, h4 => by
    have n' : (ioA ms vs).Nodup := by
      cases m
      · rw [show ioA (false :: ms) (v :: vs) = ioA ms vs by cases v <;> rfl] at n
        exact n
      · cases v with
        | ref q =>
          rw [show ioA (true :: ms) (V.ref q :: vs) = q :: ioA ms vs from rfl, List.nodup_cons] at n
          exact n.2
        | _ => exact n
    have e : i = j := ioA_ix n' (by simpa using h1) (by simpa using h2) (by simpa using h3) (by simpa using h4)
    rw [e]
  | m :: ms, v :: vs, p, 0, j + 1, n, h1, h2, h3, h4 => by
    simp at h1 h2
    subst h1 h2
    rw [show ioA (true :: ms) (V.ref p :: vs) = p :: ioA ms vs from rfl, List.nodup_cons] at n
    exact absurd (mem_ioA.mpr ⟨j, by simpa using h3, by simpa using h4⟩) n.1
  | m :: ms, v :: vs, p, i + 1, 0, n, h1, h2, h3, h4 => by
    simp at h3 h4
    subst h3 h4
    rw [show ioA (true :: ms) (V.ref p :: vs) = p :: ioA ms vs from rfl, List.nodup_cons] at n
    exact absurd (mem_ioA.mpr ⟨i, by simpa using h1, by simpa using h2⟩) n.1
/-- the start of a def's body -/
theorem ok_start {ms : List Bool} {N : List Str} {vs : List V} {ds : List D} (s : Same F H ∧ LamX.Tabs L.tabs H ∧ NtF L F) (r : ArgR L F H ms vs ds) (n : (ioA ms vs).Nodup) (hl : ms.length ≤ N.length) : Ok L (cutL L H) F H (start N vs) (startE ms N.length ds) := by
  have l1 := r.length.1
  have l2 := r.length.2
  have st : ∀ (i : Nat) (v : V), (start N vs)[i]? = some (some v) → vs[i]? = some v := fun i v e => by
    unfold L2.start at e
    by_cases hi : i < vs.length
    · rw [List.getElem?_append_left (by simpa using hi), List.getElem?_map] at e
      cases q : vs[i]? with
      | none => rw [q] at e; cases e
      | some w => rw [q] at e; cases e; rfl
    · rw [List.getElem?_append_right (by simpa using hi)] at e
      have := List.eq_of_mem_replicate (List.mem_of_getElem? e)
      cases this
  have ts : ∀ (i : Nat) (v : V), vs[i]? = some v → (start N vs)[i]? = some (some v) := fun i v e => by
    have hi : i < vs.length := (List.getElem?_eq_some_iff.mp e).1
    unfold L2.start
    rw [List.getElem?_append_left (by simpa using hi), List.getElem?_map, e]
    rfl
  refine ⟨s.1, s.2.1, s.2.2, fun a e => e, ?_, fun i x e h1 h2 => ?_, fun i j p a b => ?_⟩
  · rw [startE_length]
    unfold L2.start
    rw [List.length_append, List.length_map, List.length_replicate]
    omega
  · rcases startE_get h2 with rfl | ⟨d, hm, hd, rfl⟩ | ⟨d, hm, hd, rfl⟩
    · cases x <;> trivial
    · rcases r.get hd with ⟨_, v, e1, rv⟩ | ⟨z, _⟩
      · have := ts i v e1
        rw [h1] at this
        cases this
        exact rv
      · rw [hm] at z
        cases z
    · rcases r.get hd with ⟨z, _⟩ | ⟨_, p, e1, nf, ow⟩
      · rw [hm] at z
        cases z
      · have := ts i _ e1
        rw [h1] at this
        cases this
        exact ⟨p, rfl, nf, ow⟩
  · have get : ∀ i, Mu (start N vs) (startE ms N.length ds) i p → ms[i]? = some true ∧ vs[i]? = some (.ref p) := fun i ⟨h1, h2⟩ => by
      refine ⟨?_, st i _ h1⟩
      rcases h2 with ⟨d, h2⟩ | ⟨d, h2⟩
      · rcases startE_get h2 with z | ⟨d', _, _, z⟩ | ⟨d', _, _, z⟩ <;> cases z
      · rcases startE_get h2 with z | ⟨d', _, _, z⟩ | ⟨d', hm, _, z⟩
        · cases z
        · cases z
        · exact hm
    exact ioA_ix n (get i a).1 (get i a).2 (get j b).1 (get j b).2
theorem mu_start {ms : List Bool} {N : List Str} {vs : List V} {ds : List D} (r : ArgR L F H ms vs ds) (i : Nat) (p : Addr) (m : Mu (start N vs) (startE ms N.length ds) i p) : p ∈ ioA ms vs := by
  obtain ⟨h1, h2⟩ := m
  refine mem_ioA.mpr ⟨i, ?_, ?_⟩
  · rcases h2 with ⟨d, h2⟩ | ⟨d, h2⟩
    · rcases startE_get h2 with z | ⟨d', _, _, z⟩ | ⟨d', _, _, z⟩ <;> cases z
    · rcases startE_get h2 with z | ⟨d', _, _, z⟩ | ⟨d', hm, _, z⟩
      · cases z
      · cases z
      · exact hm
  · unfold L2.start at h1
    by_cases hi : i < vs.length
    · rw [List.getElem?_append_left (by simpa using hi), List.getElem?_map] at h1
      cases q : vs[i]? with
      | none => rw [q] at h1; cases h1
      | some w => rw [q] at h1; cases h1; rfl
    · rw [List.getElem?_append_right (by simpa using hi)] at h1
      have := List.eq_of_mem_replicate (List.mem_of_getElem? h1)
      cases this
/-- what the io parameters hold at the end -/
theorem ios_end : ∀ {ms : List Bool} {vs : List V} {ds : List D} {env' : Env'} {ios : List D}, ArgR L F H ms vs ds → iosE ms env' = some ios →
    (∀ (i : Nat) (d : D) (p : Addr), env'[i]? = some (.io d) → vs[i]? = some (.ref p) → F' p = none ∧ Own L F' H' p d) → IoR L F' H' (ioA ms vs) ios
  | _, _, _, env', ios, .nil, e, h => by simp [iosE] at e; subst e; exact .nil
  | _, _, _, env', ios, .dat (v := v) (vs := vs) (ms := ms) hd r, e, h => by
    rw [show ioA (false :: ms) (v :: vs) = ioA ms vs by cases v <;> rfl]
    cases env' with
    | nil => simp [iosE] at e
    | cons x env' => exact ios_end r (by simpa [iosE] using e) fun i d p h1 h2 => h (i + 1) d p (by simpa using h1) (by simpa using h2)
  | _, _, _, env', ios, .io (p := p) (vs := vs) (ms := ms) nf ow r, e, h => by
    cases env' with
    | nil => simp [iosE] at e
    | cons x env' =>
      cases x with
      | io d =>
        simp only [iosE] at e
        cases q : iosE ms env' with
        | none => rw [q] at e; cases e
        | some js =>
          rw [q] at e
          cases e
          obtain ⟨h1, h2⟩ := h 0 d p (by simp) (by simp)
          exact .cons h1 h2 (ios_end r q fun i d p h1 h2 => h (i + 1) d p (by simpa using h1) (by simpa using h2))
      | _ => simp [iosE] at e
end
def rmB (L : Lay) : Bool → RM
  | false => rmD L
  | true => rmO L
section
variable {P : Program} {w : World} {K : PySem.W.Frag} {mg : Str → Option Value} {base : Heap} {L : Lay}
/-- THE RULE for a def by its meaning -/
theorem fn_mean {x qual : Str} {st : Stmt} {f : Addr} {fd : FuncData} {N ps : List Str} {k : Nat} {ms : List Bool} {o : Bool} {m : Ms} (Fn : Fun K x qual st f fd) (S : FnScope N ps (defScope st)) (hm : ms.length = ps.length) (hn : ps.length ≤ N.length)
    (hbody : ∀ (cdv : Value) (A : Around) (outer : List Env) (s : Shared) (H : Hp) (E : XK), Room k (A.deeper (envOfC qual (defScope st) s.heap.objs.size f cdv)) →
      ImB L (fun _ => E) (rmB L o) (cxOf (L2.CX P w) P w K mg base N qual (defScope st) f cdv A outer s H E) (defBody st) m) (ho : o = true → ∀ ds e, m (startE ms N.length ds) ≠ .nx e) :
    FnOk P w K mg base (L2.CX P w) (k + 1) f fd ps (spF L ms o (runF ms N.length m)) := by
  refine Fn.okX S (fun vs H Q E ⟨ds, F, s, r, _, _⟩ => by rw [r.length.1, hm]) (fun cdv A outer s H vs Q E hr h => ?_)
  obtain ⟨t, p, i⟩ := hbody cdv A outer s H E hr
  obtain ⟨ds, F, sm, ar, nd, q⟩ := h
  refine ⟨t, p, ?_⟩
  have k0 := ok_start (N := N) sm ar nd (by omega)
  refine i (cutL L H) (start N vs) (startE ms N.length ds) F H _ k0 ?_
  -- from the slots to the def's own word
  have gof : ∀ {F' H' : Hp} {σ' : L2.St} {env' : Env'} {ios : List D}, Go L (cutL L H) F H (start N vs) (startE ms N.length ds) F' H' σ' env' → iosE ms env' = some ios → GoF L (ioA ms vs) F H F' H' ios := fun {F' H' σ' env' ios} g e => by
    refine ⟨g.ff, g.ok.fh, g.ok.tb, g.ok.nt, fun a o' e' t n => g.kp a o' e' t fun i m => n (mu_start ar i a m), fun a o' e' t n => g.fr a o' e' t fun i m => n (mu_start ar i a m), g.dm, ios_end ar e fun i d p h1 h2 => ?_⟩
    obtain ⟨e1, d0, e2⟩ := g.io i d h1
    obtain ⟨q, eq, nf, ow, _⟩ := g.ok.mut (.inr h1)
    have e3 : (start N vs)[i]? = some (some (.ref p)) := by
      have hi : i < vs.length := (List.getElem?_eq_some_iff.mp h2).1
      unfold L2.start
      rw [List.getElem?_append_left (by simpa using hi), List.getElem?_map, h2]
      rfl
    rw [e1, e3] at eq
    cases eq
    exact ⟨nf, ow⟩
  unfold runF at q
  cases hm2 : m (startE ms N.length ds) with
  | nx e =>
    rw [hm2] at q
    simp only at q
    cases hi : iosE ms e with
    | none => rw [hi] at q; exact q.elim
    | some ios =>
      rw [hi] at q
      intro σ' F' H' g
      refine q .non F' H' (gof g hi) ?_
      cases o with
      | false => exact Rep.non
      | true => exact absurd hm2 (ho rfl ds e)
  | rt d e =>
    rw [hm2] at q
    simp only at q
    cases hi : iosE ms e with
    | none => rw [hi] at q; exact q.elim
    | some ios =>
      rw [hi] at q
      intro v σ' F' H' g r
      refine q v F' H' (gof g hi) ?_
      cases o with
      | false => exact r
      | true =>
        obtain ⟨p, rfl, a, b, c, _⟩ := r
        exact ⟨p, rfl, a, b, c⟩
  | er c fs e =>
    rw [hm2] at q
    simp only at q
    cases hi : iosE ms e with
    | none => rw [hi] at q; exact q.elim
    | some ios =>
      rw [hi] at q
      intro C a σ' F' H' us e1 g e2 e3
      exact q C a F' H' us e1 (gof g hi) e2 e3
  | bk e => rw [hm2] at q; exact q.elim
  | ct e => rw [hm2] at q; exact q.elim
  | no => rw [hm2] at q; exact q.elim
end
end Pu

/-! # Pu14 -/
namespace Pu
open PySem PySem.Spec PyProof.Rows L2
/-! # calls of defs -/
def argsOf (env : Env') : List Bool → List XD → Option (List D)
  | [], [] => some []
  | false :: ms, .inl d :: xs => (argsOf env ms xs).map (d :: ·)
  | true :: ms, .inr i :: xs => match slotV env i with
    | some (_, d) => (argsOf env ms xs).map (d :: ·)
    | none => none
  | _, _ => none
def ioS : List Bool → List XD → List Nat
  | true :: ms, .inr i :: xs => i :: ioS ms xs
  | _ :: ms, _ :: xs => ioS ms xs
  | _, _ => []
def backIo (env : Env') : List Nat → List D → Option Env'
  | [], [] => some env
  | i :: is, d :: ds => match env[i]? with
    | some y => backIo (env.set i (putSl y d)) is ds
    | none => none
  | _, _ => none
def callZ (φ : List D → Rz) (ms : List Bool) (xs : List XD) (env : Env') : Rx D := match argsOf env ms xs with
  | some ds => if (ioS ms xs).Nodup then match φ ds with
    | .ok d ios => match backIo env (ioS ms xs) ios with
      | some e => .ok d e
      | none => .no
    | .er c fs ios => match backIo env (ioS ms xs) ios with
      | some e => .er c fs e
      | none => .no
    | .no => .no
    else .no
  | none => .no
def rlB (L : Lay) : Bool → Rl V D
  | false => rDat L
  | true => rOwn L
section
variable {L : Lay} {Z F H F' H' : Hp} {σ : L2.St} {env env' : Env'}
theorem backIo_spec : ∀ {is : List Nat} {ds : List D} {env env' : Env'}, backIo env is ds = some env' → is.Nodup → env'.length = env.length ∧ is.length = ds.length ∧
    ∀ (j : Nat) (y : Sl), env'[j]? = some y → (j ∉ is ∧ env[j]? = some y) ∨ ∃ (t : Nat) (d : D) (y0 : Sl), is[t]? = some j ∧ ds[t]? = some d ∧ env[j]? = some y0 ∧ y = putSl y0 d
  | [], [], env, env', e, _ => by cases e; exact ⟨rfl, rfl, fun j y h => .inl ⟨by simp, h⟩⟩
  | [], d :: ds, env, env', e, _ => by cases e
  | i :: is, [], env, env', e, _ => by cases e
  | i :: is, d :: ds, env, env', e, n => by
    rw [List.nodup_cons] at n
    cases q : env[i]? with
    | none => rw [backIo, q] at e; cases e
    | some y0 =>
      rw [backIo, q] at e
      have hi : i < env.length := (List.getElem?_eq_some_iff.mp q).1
      obtain ⟨h1, h2, h3⟩ := backIo_spec e n.2
      refine ⟨by rw [h1, List.length_set], by simp [h2], fun j y hj => ?_⟩
      rcases h3 j y hj with ⟨a, b⟩ | ⟨t, d', y1, a, b, c, e'⟩
      · by_cases hji : j = i
        · subst hji
          rw [List.getElem?_set_self hi] at b
          cases b
          exact .inr ⟨0, d, y0, by simp, by simp, q, rfl⟩
        · rw [List.getElem?_set_ne (Ne.symm hji)] at b
          exact .inl ⟨by simp [hji, a], b⟩
      · have hji : j ≠ i := fun z => n.1 (by rw [← z]; exact List.mem_of_getElem? a)
        rw [List.getElem?_set_ne (Ne.symm hji)] at c
        exact .inr ⟨t + 1, d', y1, by simpa using a, by simpa using b, c, e'⟩
theorem IoR.get : ∀ {ps : List Addr} {ds : List D} {t : Nat} {p : Addr} {d : D}, IoR L F H ps ds → ps[t]? = some p → ds[t]? = some d → F p = none ∧ Own L F H p d
  | _, _, _, _, _, .nil, h, _ => by simp at h
  | _, _, 0, _, _, .cons a b r, h1, h2 => by simp at h1 h2; subst h1 h2; exact ⟨a, b⟩
  | _, _, t + 1, _, _, .cons a b r, h1, h2 => r.get (by simpa using h1) (by simpa using h2)
/-- the slots' places are the addresses handed in -/
theorem ioS_ioA {xs : List XD} {vs : List V} {ms : List Bool} {ds : List D} (k : Ok L Z F H σ env) : RelXs L F σ vs xs → argsOf env ms xs = some ds →
    ArgR L F H ms vs ds ∧ (ioA ms vs).length = (ioS ms xs).length ∧ ∀ (t : Nat) (i : Nat), (ioS ms xs)[t]? = some i → ∃ p, (ioA ms vs)[t]? = some p ∧ Mu σ env i p := by
  intro rx
  induction rx generalizing ms ds with
  | nil =>
    intro e
    cases ms with
    | nil => cases e; exact ⟨.nil, rfl, fun t i h => by simp [ioS] at h⟩
    | cons m ms => cases m <;> simp [argsOf] at e
  | cons h r ih =>
    rename_i v x vs xs
    intro e
    cases ms with
    | nil => simp [argsOf] at e
    | cons m ms =>
      cases x with
      | inl d =>
        cases m with
        | true => simp [argsOf] at e
        | false =>
          rw [argsOf] at e
          cases q : argsOf env ms xs with
          | none => rw [q] at e; cases e
          | some es =>
            rw [q] at e
            cases e
            obtain ⟨h1, h2, h3⟩ := ih q
            have e1 : ioA (false :: ms) (v :: vs) = ioA ms vs := by cases v <;> rfl
            rw [e1]
            exact ⟨.dat h h1, h2, h3⟩
      | inr i =>
        cases m with
        | false => simp [argsOf] at e
        | true =>
          rw [argsOf] at e
          cases q0 : slotV env i with
          | none => rw [q0] at e; cases e
          | some yd =>
            obtain ⟨y, d⟩ := yd
            rw [q0] at e
            simp only at e
            cases q : argsOf env ms xs with
            | none => rw [q] at e; cases e
            | some es =>
              rw [q] at e
              cases e
              obtain ⟨h1, h2, h3⟩ := ih q
              obtain ⟨p, e1, ow, ey, hy⟩ := slotV_mut k q0
              have h' : σ[i]? = some (some v) := h
              rw [e1] at h'
              cases h'
              have mu : Mu σ env i p := mu_of e1 ey rfl (hy.imp (fun z => ⟨d, z⟩) fun z => ⟨d, z⟩)
              have nf := (k.mu mu).1
              refine ⟨.io nf ow h1, by rw [show ioA (true :: ms) (V.ref p :: vs) = p :: ioA ms vs from rfl, show ioS (true :: ms) (Sum.inr i :: xs) = i :: ioS ms xs from rfl]; simp [h2], fun t j ht => ?_⟩
              rw [show ioA (true :: ms) (V.ref p :: vs) = p :: ioA ms vs from rfl]
              rw [show ioS (true :: ms) (Sum.inr i :: xs) = i :: ioS ms xs from rfl] at ht
              cases t with
              | zero => simp at ht; subst ht; exact ⟨p, by simp, mu⟩
              | succ t => simpa using h3 t j (by simpa using ht)
/-- behind a call -/
theorem go_of {ps : List Addr} {is : List Nat} {ios : List D} (k : Ok L Z F H σ env) (g : GoF L ps F H F' H' ios) (hl : ps.length = is.length) (hp : ∀ (t : Nat) (i : Nat), is[t]? = some i → ∃ p, ps[t]? = some p ∧ Mu σ env i p) (nd : is.Nodup) (e : backIo env is ios = some env') : Go L Z F H σ env F' H' σ env' := by
  obtain ⟨l1, l2, sp⟩ := backIo_spec e nd
  have pmu : ∀ p ∈ ps, ∃ i, i ∈ is ∧ Mu σ env i p := fun p m => by
    obtain ⟨t, ht, et⟩ := List.getElem_of_mem m
    have h1 : is[t]? = some is[t] := List.getElem?_eq_getElem (by omega)
    obtain ⟨q, h2, h3⟩ := hp t _ h1
    rw [List.getElem?_eq_getElem ht, et] at h2
    cases h2
    exact ⟨_, List.mem_of_getElem? h1, h3⟩
  have kind : ∀ (y0 : Sl) (d : D), ((∃ d', putSl y0 d = .own d') ∨ ∃ d', putSl y0 d = .io d') := fun y0 d => by
    cases y0 <;> first | exact .inl ⟨d, rfl⟩ | exact .inr ⟨d, rfl⟩
  have mu' : ∀ i a, Mu σ env' i a → Mu σ env i a := fun i a ⟨h1, h2⟩ => by
    rcases h2 with ⟨d, h2⟩ | ⟨d, h2⟩
    all_goals
      rcases sp i _ h2 with ⟨_, q⟩ | ⟨t, d', y0, a1, a2, a3, a4⟩
      · exact ⟨h1, by first | exact .inl ⟨d, q⟩ | exact .inr ⟨d, q⟩⟩
      · obtain ⟨p, e1, m⟩ := hp t i a1
        have m1 := m.1
        rw [h1] at m1
        cases m1
        exact m
  have nps : ∀ a, (∀ i, ¬ Mu σ env i a) → a ∉ ps := fun a n m => by
    obtain ⟨i, _, m'⟩ := pmu a m
    exact n i m'
  refine ⟨g.ff, fun a o e t n => g.kp a o e t (nps a n), fun a o e t n => g.fr a o e t (nps a n), g.dm, fun i a m => .inl ⟨i, mu' i a m⟩, fun j d e => ⟨rfl, ?_⟩, g.fh, g.tb, g.nt, fun a ea => k.zh a (none_of fun o eo => by
    obtain ⟨e1, t⟩ := cut_of eo
    obtain ⟨o', e', t'⟩ := g.dm a o e1 t
    exact cut_not ea e' t'), by rw [l1]; exact k.len, fun j x y h1 h2 => ?_, fun i j p a b => k.ds i j p (mu' _ _ a) (mu' _ _ b)⟩
  · rcases sp j _ e with ⟨_, q⟩ | ⟨t, d', y0, a1, a2, a3, a4⟩
    · exact ⟨d, q⟩
    · cases y0 with
      | io d0 => exact ⟨d0, a3⟩
      | _ => cases a4
  · rcases sp j y h2 with ⟨nj, q⟩ | ⟨t, d, y0, a1, a2, a3, a4⟩
    · refine (k.sl j x y h1 q).mono g.ff fun p hx he => ?_
      have mq := mu_of h1 q hx he
      have np : p ∉ ps := fun m => by
        obtain ⟨i, hi, m'⟩ := pmu p m
        exact nj (by rw [k.ds j i p mq m']; exact hi)
      obtain ⟨nf, d, ow, _⟩ := k.mu mq
      obtain ⟨o, ho⟩ := ow.there
      exact ⟨by rw [g.fr p o ho (ow.noT ho) np]; exact nf, fun o' e' => g.kp p o' e' (ow.noT e') np⟩
    · obtain ⟨p, e1, m⟩ := hp t j a1
      obtain ⟨nf, ow⟩ := g.io.get e1 a2
      have m1 := m.1
      rw [h1] at m1
      cases m1
      subst a4
      cases y0 with
      | io d0 => exact ⟨p, rfl, nf, ow⟩
      | own d0 =>
        have := k.sl j _ _ h1 a3
        obtain ⟨q, eq, _, _, zq⟩ := this
        cases eq
        exact ⟨p, rfl, nf, ow, zq⟩
      | no =>
        rcases m.2 with ⟨_, z⟩ | ⟨_, z⟩ <;> (rw [a3] at z; cases z)
      | dat d0 =>
        rcases m.2 with ⟨_, z⟩ | ⟨_, z⟩ <;> (rw [a3] at z; cases z)
theorem call_core {E : L2.St → XK} {o : Bool} {φ : List D → Rz} {ms : List Bool} {xs : List XD} {vs : List V} {Q : VK} (k : Ok L Z F H σ env) (rx : RelXs L F σ vs xs) (h : Post L Z E σ env F H (rlB L o) Q (callZ φ ms xs env)) : spF L ms o φ vs H Q (E σ) := by
  unfold callZ at h
  cases q : argsOf env ms xs with
  | none => rw [q] at h; exact h.elim
  | some ds =>
    rw [q] at h
    simp only at h
    by_cases nd : (ioS ms xs).Nodup
    case neg => rw [if_neg nd] at h; exact h.elim
    rw [if_pos nd] at h
    obtain ⟨ar, hl, hp⟩ := ioS_ioA k rx q
    have nda : (ioA ms vs).Nodup := by
      refine List.pairwise_iff_getElem.mpr fun t u ht hu htu z => ?_
      have h1 : (ioS ms xs)[t]? = some (ioS ms xs)[t] := List.getElem?_eq_getElem (by omega)
      have h2 : (ioS ms xs)[u]? = some (ioS ms xs)[u] := List.getElem?_eq_getElem (by omega)
      obtain ⟨p1, e1, m1⟩ := hp t _ h1
      obtain ⟨p2, e2, m2⟩ := hp u _ h2
      rw [List.getElem?_eq_getElem ht] at e1
      rw [List.getElem?_eq_getElem hu] at e2
      cases e1
      have e2 := Option.some.inj e2
      rw [← e2, ← z] at m2
      exact List.pairwise_iff_getElem.mp nd t u (by omega) (by omega) htu (k.ds _ _ _ m1 m2)
    refine ⟨ds, F, ⟨k.fh, k.tb, k.nt⟩, ar, nda, ?_⟩
    cases hz : φ ds with
    | no => rw [hz] at h; exact h.elim
    | ok d ios =>
      rw [hz] at h
      simp only at h
      cases q2 : backIo env (ioS ms xs) ios with
      | none => rw [q2] at h; exact h.elim
      | some e2 =>
        rw [q2] at h
        intro v F' H' g r
        have gg := go_of k g hl hp nd q2
        refine h v F' H' gg ?_
        cases o with
        | false => exact r
        | true =>
          obtain ⟨p, rfl, a, b, c⟩ := r
          exact ⟨p, rfl, a, b, c, fun i m => by
            rcases gg.mm i p m with ⟨j, m'⟩ | z
            · exact k.nomu a j m'
            · obtain ⟨h1, h2⟩ := m
              rcases h2 with ⟨d', h2⟩ | ⟨d', h2⟩
              all_goals
                obtain ⟨_, _, sp⟩ := backIo_spec q2 nd
                rcases sp i _ h2 with ⟨_, qq⟩ | ⟨t, dd, y0, a1, a2, a3, a4⟩
                · exact k.nomu a i ⟨h1, by first | exact .inl ⟨_, qq⟩ | exact .inr ⟨_, qq⟩⟩
                · obtain ⟨p', e1, m⟩ := hp t i a1
                  have m1 := m.1
                  rw [h1] at m1
                  cases m1
                  exact k.nomu a i m⟩
    | er c fs ios =>
      rw [hz] at h
      simp only at h
      cases q2 : backIo env (ioS ms xs) ios with
      | none => rw [q2] at h; exact h.elim
      | some e2 =>
        rw [q2] at h
        intro C a F' H' us e1 g e3 e4
        exact h C a F' H' us e1 (go_of k g hl hp nd q2) e3 e4
end
end Pu

/-! # PuN -/
namespace PySem.W
open PySem PySem.Spec PyProof.Rows
section
variable {prog : Program} {w : World} {A : Around} {E : Value → Shared → Prop} {s : Shared} {K : Frag} {x C L f : Addr} {h₀ : Heap} {m : Str → Option Value} {ox : Obj} {od : Option Obj} {b tb : Value}
end
end PySem.W
namespace Tc
open PySem PySem.Spec PyProof.Rows L2
section
variable {X : Cx} {CX : CXT} {k : Nat} {f C : Addr} {fd : FuncData} {ps : List Str} {sp : Sp}
structure NeC (K : PySem.W.Frag) (C : Addr) : Prop where
  at_ : PySem.W.findIn K (.ref C) "__ne__" = some (some (.builtin "object.__ne__"))
  mro : PySem.W.mroIn K C (.type "object") = some true
end
end Tc

/-! # PuI -/
namespace Tc
open PySem PySem.Spec PyProof.Rows L2
section
variable {X : Cx} {pins : List (Addr × Obj)} {σ : L2.St} {H : Hp} {s : Shared} {t it : Addr} {i : Nat}
end
section
variable {P : Program} {w : World} {K : PySem.W.Frag} {mg : Str → Option Value} {base : Heap} {CX : CXT} {k : Nat} {f : Addr} {fd : FuncData} {ps : List Str} {sp : Nat → Sp}
end
section
variable {X : Cx} {CX : CXT} {k : Nat} {f C : Addr} {fd : FuncData} {ps : List Str} {F : Str} {tg a : Expr} {ta : TE}
end
end Tc

/-! # Pu15 -/
namespace Pu
open PySem PySem.Spec PyProof.Rows L2 Tc
/-! # calls in the text -/
abbrev CXX (X : Cx) : CXT := L2.CX X.prog X.w
def mCall (φ : List D → Rz) (ms : List Bool) (ma : Mxs) : Me := fun env => (ma env).bind fun xs env1 => callZ φ ms xs env1
section
variable {L : Lay} {E : L2.St → XK} {X : Cx} {k : Nat} {f C : Addr} {fd : FuncData} {ps : List Str} {x n : Str} {e a b o : Expr} {es : List Expr} {ma : Mxs} {mx : Mx} {ms : List Bool} {φ : List D → Rz} {p pos apos : Pos} {ow : Bool}
theorem call_in {t : TA} (i : Im L E (rOps L) t ma) : Im L E (rlB L ow) (tCallS (spF L ms ow φ) E t) (mCall φ ms ma) := fun Z σ env F H Q k h => by
  refine i Z σ env F H _ k (Post.bindAt (Go.refl k) h fun xs env1 vs F1 H1 g rv h => ?_)
  exact call_core g.ok rv (Post.from g h)
theorem imE_call (G : FnOk X.prog X.w X.K X.mg X.base (CXX X) k f fd ps (spF L ms false φ)) (hr : Room k X.A) (hg : Gl X x) (hm : X.mg x = some (.ref f)) (hk : PySem.W.keepIn X.K (.ref f) = true) (hb : Binds X.K fd ps []) (hx : ∀ σ, PassesAt (CXX X) X σ (E σ)) (ha : ImXs L E X (e :: es) ma)
    (hdb : (x == ("__debug__" : Str)) = false := by decide) (he : starEach (e :: es) X.env = (false, eval e X.env) :: starEach es X.env := by rfl) (hpl : (backTo pos (starEach es X.env)).any (·.1) = false := by rfl) : ImE L E X (.Call (.Name x p) (e :: es) [] pos) (mCall φ ms ma) := by
  obtain ⟨t, q, i⟩ := ha
  exact ⟨_, pe_callS G hr hg hm hk hb hx q hdb he hpl, call_in (ow := false) i⟩
theorem imO_call (G : FnOk X.prog X.w X.K X.mg X.base (CXX X) k f fd ps (spF L ms true φ)) (hr : Room k X.A) (hg : Gl X x) (hm : X.mg x = some (.ref f)) (hk : PySem.W.keepIn X.K (.ref f) = true) (hb : Binds X.K fd ps []) (hx : ∀ σ, PassesAt (CXX X) X σ (E σ)) (ha : ImXs L E X (e :: es) ma)
    (hdb : (x == ("__debug__" : Str)) = false := by decide) (he : starEach (e :: es) X.env = (false, eval e X.env) :: starEach es X.env := by rfl) (hpl : (backTo pos (starEach es X.env)).any (·.1) = false := by rfl) : ImO L E X (.Call (.Name x p) (e :: es) [] pos) (mCall φ ms ma) := by
  obtain ⟨t, q, i⟩ := ha
  exact ⟨_, pe_callS G hr hg hm hk hb hx q hdb he hpl, call_in (ow := true) i⟩
/-- .. of a def that asks for repr -/
theorem imE_callG (G : FnG X.prog X.w X.K X.mg X.base (CXX X) k f fd ps (spF L ms false φ)) (hgd : X.A.guards = some []) (hr : Room k X.A) (hg : Gl X x) (hm : X.mg x = some (.ref f)) (hk : PySem.W.keepIn X.K (.ref f) = true) (hb : Binds X.K fd ps []) (hx : ∀ σ, PassesAt (CXX X) X σ (E σ)) (ha : ImXs L E X (e :: es) ma)
    (hdb : (x == ("__debug__" : Str)) = false := by decide) (he : starEach (e :: es) X.env = (false, eval e X.env) :: starEach es X.env := by rfl) (hpl : (backTo pos (starEach es X.env)).any (·.1) = false := by rfl) : ImE L E X (.Call (.Name x p) (e :: es) [] pos) (mCall φ ms ma) := by
  obtain ⟨t, q, i⟩ := ha
  exact ⟨_, pe_callG G hgd hr hg hm hk hb hx q hdb he hpl, call_in (ow := false) i⟩
/-! ## an object's methods -/
/-- the operand is an object of the class c -/
def isObj' (c : Nat) : Option D → Bool
  | some (.obj c' _) => c' == c
  | _ => false
def mMeth (c : Nat) (φ : List D → Rz) (ms : List Bool) (mo : Mx) (ma : Mxs) : Me := fun env => (mo env).bind fun y env1 => if isObj' c (deref env1 y) = true then (ma env1).bind fun xs env2 => callZ φ ms (y :: xs) env2 else .no
/-- what is known of the class c -/
structure ClsF (L : Lay) (K : PySem.W.Frag) (c : Nat) (C : Addr) : Prop where
  at_ : L.cls[c]? = some C
  cl : Cls K C
theorem obj_top {F H : Hp} {v : V} {d : D} {c : Nat} (hc : L.cls[c]? = some C) (t : Top L F H v d) (h : isObj' c (some d) = true) : ∃ (q dx : Addr) (fs : List (Str × V)) (ds : List (Nat × D)), v = .ref q ∧ d = .obj c ds ∧ H q = some (.ins C dx fs) ∧ RepF L F fs ds := by
  cases d with
  | obj c' ds =>
    have e : c' = c := by simpa [isObj'] using h
    subst e
    obtain ⟨q, C', dx, fs, rfl, h1, h2, h3⟩ := t
    rw [hc] at h1
    cases h1
    exact ⟨q, dx, fs, ds, rfl, rfl, h2, h3⟩
  | _ => exact absurd h (by simp [isObj'])
end
end Pu

/-! # Pu16 -/
namespace Pu
open PySem PySem.Spec PyProof.Rows L2 Tc
/-! # more of objects: methods without arguments, makes, fields, properties -/
/-- no exception is told -/
def Rx.nox {α : Type} : Rx α → Rx α
  | .ok a e => .ok a e
  | _ => .no
def mMeth0 (c : Nat) (φ : List D → Rz) (ms : List Bool) (mo : Mx) : Me := fun env => (mo env).bind fun y env1 => if isObj' c (deref env1 y) = true then callZ φ ms [y] env1 else .no
def mFld (c k : Nat) (mo : Mx) : Me := fun env => (mo env).bind fun y env1 => match deref env1 y with
  | some (.obj c' fs) => if c' = c then liftO (fs.lookup k) env1 else .no
  | _ => .no
def mProp (c : Nat) (φ : List D → Rz) (ms : List Bool) (mo : Mx) : Me := fun env => (mo env).bind fun y env1 => if isObj' c (deref env1 y) = true then (callZ φ ms [y] env1).nox else .no
def mIxO (c : Nat) (φ : List D → Rz) (ms : List Bool) (mo mi : Mx) : Me := fun env => (mo env).bind fun x env1 => (mi env1).bind fun y env2 => if isObj' c (deref env2 x) = true then callZ φ ms [x, y] env2 else .no
/-- C(e, ..): the arguments are data; the new object is changed by __init__ -/
def allD : List XD → Option (List D)
  | [] => some []
  | .inl d :: xs => (allD xs).map (d :: ·)
  | _ => none
def madeZ (env1 : Env') : Rz → Rx D
  | .ok .non [d] => .ok d env1
  | .er c fs _ => .er c fs env1
  | _ => .no
def mMake (c m : Nat) (φ : List D → Rz) (ma : Mxs) : Me := fun env => (ma env).bind fun xs env1 => match allD xs with
  | some ds => if ds.length = m then madeZ env1 (φ (.obj c [] :: ds)) else .no
  | none => .no
section
variable {L : Lay} {E : L2.St → XK} {X : Cx} {k : Nat} {f C : Addr} {fd : FuncData} {ps : List Str} {x n : Str} {e a b o : Expr} {es : List Expr} {ma : Mxs} {mx mi : Mx} {ms : List Bool} {φ : List D → Rz} {p pos apos : Pos} {ow : Bool} {σ : L2.St} {env env1 : Env'} {Z F H F1 H1 : Hp} {α β : Type} {rl : Rl β α} {Q : β → Hp → Prop}
theorem Post.nox {m : Rx α} (h : Post L Z E σ env F H rl Q m.nox) : Post L Z (fun _ => E0) σ env F H rl Q m := by
  cases m with
  | ok d env' => exact h
  | er c fs env' => exact h.elim
  | no => exact h.elim
theorem pe_methS0 {ta : TE} {sp : Sp} {pl : Sem Bool} (he : PE X o ta) (c : Cls X.K C) (hm : Meth X.K C n f) (F : FnOk X.prog X.w X.K X.mg X.base (CXX X) k f fd ps sp) (hr : Room k X.A) (hb : Binds X.K fd ps []) (hx : ∀ σ, PassesAt (CXX X) X σ (E σ))
    (ht : eval (.Call (.Attribute o n apos) [] [] pos) X.env = (do
      let ov ← eval o X.env
      standAt apos.atName
      let (g, first) ← holding [ov] (getMethod ov n pl)
      callWith pos g first (backTo pos (starEach [] X.env)) (backToKw pos (keywordEach [] X.env))) := by rfl) :
    PE X (.Call (.Attribute o n apos) [] [] pos) (tMethS C n sp E ta tNil) := by
  refine ⟨fun pins s σ H Q I h => ?_⟩
  refine PySem.W.methodCall_KW (pl := pl) (thn (he.run pins s σ H _ I h) fun u s1 ⟨y, H1, I1, ry, pp, dx, fs, ey, hp, l, q⟩ => ?_) ht
  subst ey
  obtain rfl : u = Value.ref pp := ry
  refine getmeth_ok I1 hp c hm l ?_
  exact PySem.W.callWith_K0 (first := [.ref pp]) I1.kIn hm.kp (run_at (us := [.ref pp]) (vs := [.ref pp]) rfl hr F hb (hx σ) I1 (.cons rfl .nil) q)
theorem meth0_in {c : Nat} {to : TE} (hc : L.cls[c]? = some C) (hn : n ∉ L.nms) (io : Im L E (rOp L) to mx) : Im L E (rlB L ow) (tMethS C n (spF L ms ow φ) E to tNil) (mMeth0 c φ ms mx) := fun Z σ env F H Q k h => by
  refine io Z σ env F H _ k (Post.bindAt (Go.refl k) h fun y env1 v F1 H1 g rv h => ?_)
  by_cases hy : isObj' c (deref env1 y) = true
  case neg => rw [if_neg hy] at h; exact h.elim
  rw [if_pos hy] at h
  cases q : deref env1 y with
  | none => rw [q] at hy; cases hy
  | some d =>
    rw [q] at hy
    obtain ⟨q', dx, fs, ds, rfl, rfl, h1, h2⟩ := obj_top hc (RelX.top g.ok rv q) hy
    refine ⟨q', dx, fs, rfl, h1, h2.off hn, ?_⟩
    exact call_core g.ok (.cons rv .nil) (Post.from g h)
theorem imE_meth0 {c : Nat} {pl : Sem Bool} (cf : ClsF L X.K c C) (hn : n ∉ L.nms) (hm : Meth X.K C n f) (G : FnOk X.prog X.w X.K X.mg X.base (CXX X) k f fd ps (spF L ms false φ)) (hr : Room k X.A) (hb : Binds X.K fd ps []) (hx : ∀ σ, PassesAt (CXX X) X σ (E σ)) (ho : ImX L E X o mx)
    (ht : eval (.Call (.Attribute o n apos) [] [] pos) X.env = (do
      let ov ← eval o X.env
      standAt apos.atName
      let (g, first) ← holding [ov] (getMethod ov n pl)
      callWith pos g first (backTo pos (starEach [] X.env)) (backToKw pos (keywordEach [] X.env))) := by rfl) :
    ImE L E X (.Call (.Attribute o n apos) [] [] pos) (mMeth0 c φ ms mx) := by
  obtain ⟨to, po, io⟩ := ho
  exact ⟨_, pe_methS0 po cf.cl hm G hr hb hx ht, meth0_in (ow := false) cf.at_ hn io⟩
/-! ## fields -/
theorem imE_fld {c kf : Nat} (cf : ClsF L X.K c C) (hf : L.nms[kf]? = some n) (hna : NoAttr X.K C n) (ho : ImX L E X o mx) (hb : attributeBase o n X.env (eval o X.env) = eval o X.env := by rfl) : ImE L E X (.Attribute o n pos) (mFld c kf mx) := by
  obtain ⟨to, po, io⟩ := ho
  refine ⟨_, pe_fld po hb, fun Z σ env F H Q k h => io Z σ env F H _ k (Post.bind h fun y env1 v F1 H1 g rv h => ?_)⟩
  cases q : deref env1 y with
  | none => rw [q] at h; exact h.elim
  | some d =>
    rw [q] at h
    have t := RelX.top g.ok rv q
    cases d with
    | obj c' fs =>
      by_cases hc : c' = c
      case neg => simp only [if_neg hc] at h; exact h.elim
      subst hc
      simp only [if_true] at h
      obtain ⟨d, ed, w⟩ := Post.some h
      obtain ⟨a, C', dx, vs, rfl, h1, h2, h3⟩ := t
      rw [cf.at_] at h1
      cases h1
      obtain ⟨u, e1, r⟩ := h3.lookup hf ed
      exact ⟨a, C, dx, vs, u, rfl, h2, cf.cl, hna, e1, w u F1 H1 (Go.refl g.ok) r⟩
    | _ => exact h.elim
/-- o.f = e, o a slot of ours -/
def sFldP (i c kf : Nat) (me : Me) : Ms := fun env => thenS (me env) fun d env1 => match slotV env1 i with
  | some (y, .obj c' fs) => if c' = c ∧ fs.length < 1000 then .nx (env1.set i (putSl y (.obj c (putN kf d fs)))) else .no
  | _ => .no
theorem imS_fld {rm : RM} {value : Expr} {me : Me} {p0 pos' : Pos} {c kf : Nat} (i : Nat) (cf : ClsF L X.K c C) (hf : L.nms[kf]? = some n) (hna : NoAttr X.K C n) (he : ImE L E X value me) (hN : X.N[i]? = some x := by rfl) (hv : Vis X.env.scope x := by first | exact Or.inl rfl | exact Or.inr (Or.inl rfl) | exact Or.inr (Or.inr rfl)) (hd : (x == ("__debug__" : Str)) = false := by decide)
    (hcd : (x == ("__classdict__" : Str)) = false := by decide) (hs : swapsWith value (some (.Attribute (.Name x p0) n pos')) pos.line X.env = pure false := by rfl) : ImS L E rm X (.Assign [.Attribute (.Name x p0) n pos'] value pos) (sFldP i c kf me) := by
  obtain ⟨t, p, j⟩ := he
  refine ⟨_, ps_fld (pe_var hN hv hd hcd) p hs, fun Z σ env F H N k h => j Z σ env F H _ k (PostS.bind h fun d env1 v F1 H1 g r h => ?_)⟩
  split at h
  · rename_i y c' fs q
    split at h
    · rename_i hc
      obtain ⟨rfl, hl⟩ := hc
      obtain ⟨p, e1, ow, ey, hy⟩ := slotV_mut g.ok q
      obtain ⟨C', dx, vs, h1, h2, h3⟩ := ow
      rw [cf.at_] at h1
      cases h1
      have g3 := Go.put (o := .ins C dx (putF n v vs)) (d' := .obj c' (putN kf d fs)) g.ok e1 ey hy ⟨C, dx, _, cf.at_, upd_same, h3.put hf r⟩
      exact ⟨.ref p, e1, p, C, dx, vs, rfl, h2, cf.cl, hna, by rw [h3.len]; exact hl, h σ F1 _ g3⟩
    · exact h.elim
  · exact h.elim
/-! ## properties -/
/-! ## len(o), o[i] -/
/-! ## C(e, ..) -/
theorem allD_arg {σ : L2.St} {xs : List XD} {vs : List V} {ds : List D} (r : RelXs L F σ vs xs) : allD xs = some ds → ArgR L F H (ds.map fun _ => false) vs ds ∧ ioA (ds.map fun _ => false) vs = [] := by
  induction r generalizing ds with
  | nil => intro e; cases e; exact ⟨.nil, rfl⟩
  | cons h r ih =>
    rename_i v x vs xs
    intro e
    cases x with
    | inr i => cases e
    | inl d =>
      rw [allD] at e
      cases q : allD xs with
      | none => rw [q] at e; cases e
      | some es =>
        rw [q] at e
        cases e
        obtain ⟨h1, h2⟩ := ih q
        refine ⟨.dat h h1, ?_⟩
        show ioA (false :: es.map fun _ => false) (v :: vs) = []
        rw [show ioA (false :: es.map fun _ => false) (v :: vs) = ioA (es.map fun _ => false) vs by cases v <;> rfl]
        exact h2
theorem imO_make {c m : Nat} (cf : ClsF L X.K c C) (M : Mk X.K C f) (G : FnOk X.prog X.w X.K X.mg X.base (CXX X) k f fd ps (spF L (true :: List.replicate m false) false φ)) (hr : Room (k + 1) X.A) (hg : Gl X x) (hm : X.mg x = some (.ref C)) (hb : Binds X.K fd ps []) (hx : ∀ σ, PassesAt (CXX X) X σ (E σ)) (ha : ImXs L E X (e :: es) ma) (hl : (e :: es).length = m := by rfl)
    (hdb : (x == ("__debug__" : Str)) = false := by decide) (he : starEach (e :: es) X.env = (false, eval e X.env) :: starEach es X.env := by rfl) (hpl : (backTo pos (starEach es X.env)).any (·.1) = false := by rfl) : ImO L E X (.Call (.Name x p) (e :: es) [] pos) (mMake c m φ ma) := by
  obtain ⟨t, q, i⟩ := ha
  refine ⟨_, pe_makeS M G hr hg hm hb hx q hdb he hpl, fun Z σ env F H Q k h => i Z σ env F H _ k (Post.bindAt (Go.refl k) h fun xs env1 vs F1 H1 g rv h => ?_)⟩
  intro x1 dx hx1 hdx hne
  cases qa : allD xs with
  | none => rw [qa] at h; exact h.elim
  | some ds =>
    rw [qa] at h
    simp only at h
    by_cases hlm : ds.length = m
    case neg => rw [if_neg hlm] at h; exact h.elim
    rw [if_pos hlm] at h
    obtain ⟨ar, io0⟩ := allD_arg (H := upd (upd H1 dx (.own x1)) x1 (.ins C dx [])) rv qa
    have em : (ds.map fun _ => false) = List.replicate m false := by
      rw [← hlm]
      exact List.map_const'
    rw [em] at ar io0
    have hdx2 : (upd H1 dx (.own x1)) x1 = none := by rw [upd_ne (Ne.symm hne)]; exact hx1
    have s1 : Same H1 (upd (upd H1 dx (.own x1)) x1 (.ins C dx [])) := (same_upd hdx).trans (same_upd hdx2)
    have g1 := g.trans (Go.more g.ok s1)
    have nf : F1 x1 = none := g.ok.free hx1
    have eio : ioA (true :: List.replicate m false) (.ref x1 :: vs) = [x1] := by
      show x1 :: ioA (List.replicate m false) vs = [x1]
      rw [io0]
    refine ⟨.obj c [] :: ds, F1, ⟨g.ok.fh.trans s1, g.ok.tb.ext s1, g.ok.nt⟩, .io nf ⟨C, dx, [], cf.at_, upd_same, .nil⟩ ar, by rw [eio]; simp, ?_⟩
    rw [eio]
    have hpost := Post.from g h
    -- behind
    have fin : ∀ {F' H' : Hp} {ios : List D}, GoF L [x1] F1 (upd (upd H1 dx (.own x1)) x1 (.ins C dx [])) F' H' ios → Go L Z F1 H1 σ env1 F' H' σ env1 := fun {F' H' ios} gf => by
      have nm : ∀ i a, Mu σ env1 i a → a ≠ x1 := fun i a m z => g.ok.nomu (cut_none hx1) i (z ▸ m)
      have keep : ∀ a o, H1 a = some o → NoT L o → H' a = some o := fun a o ea t => gf.kp a o (s1 _ _ ea) t fun z => by
        rw [List.mem_singleton] at z
        rw [z, hx1] at ea
        cases ea
      have frz : ∀ a o, H1 a = some o → NoT L o → F' a = F1 a := fun a o ea t => gf.fr a o (s1 _ _ ea) t fun z => by
        rw [List.mem_singleton] at z
        rw [z, hx1] at ea
        cases ea
      have dm : ∀ a o, H1 a = some o → NoT L o → ∃ o', H' a = some o' ∧ NoT L o' := fun a o ea t => gf.dm a o (s1 _ _ ea) t
      refine ⟨gf.ff, fun a o ea t _ => keep a o ea t, fun a o ea t _ => frz a o ea t, dm, fun i a mm => .inl ⟨i, mm⟩, fun j d ej => ⟨rfl, d, ej⟩, gf.fh, gf.tb, gf.nt, fun a ea => g.ok.zh a (none_of fun o eo => by obtain ⟨e1, t⟩ := cut_of eo; obtain ⟨o', e', t'⟩ := dm a o e1 t; exact cut_not ea e' t'), g.ok.len, fun i y z h1 h2 => (g.ok.sl i y z h1 h2).mono gf.ff fun p hx he => ?_, g.ok.ds⟩
      obtain ⟨nfp, d, ow, _⟩ := g.ok.mu (mu_of h1 h2 hx he)
      obtain ⟨o, ho⟩ := ow.there
      exact ⟨by rw [frz p o ho (ow.noT ho)]; exact nfp, fun o' e' => keep p o' e' (ow.noT e')⟩
    cases hz : φ (.obj c [] :: ds) with
    | no => rw [hz] at hpost; exact hpost.elim
    | er c' fs ios =>
      rw [hz] at hpost
      intro C' a F' H' us e1 gf e3 e4
      exact hpost C' a F' H' us e1 (fin gf) e3 e4
    | ok d ios =>
      rw [hz] at hpost
      intro v F' H' gf r
      cases d with
      | non =>
        match ios, hpost, gf with
        | [d], hpost, gf =>
          cases r
          refine ⟨rfl, hpost (.ref x1) F' H' (fin gf) ?_⟩
          cases gf.io with
          | cons nf2 ow2 _ => exact ⟨x1, rfl, cut_none hx1, nf2, ow2, g.ok.nomu (cut_none hx1)⟩
        | [], hpost, gf => exact hpost.elim
        | _ :: _ :: _, hpost, gf => exact hpost.elim
      | _ => exact hpost.elim
end
end Pu

/-! # Pu17 -/
namespace Pu
open PySem PySem.Spec PyProof.Rows L2 Tc
section
variable {L : Lay} {E : L2.St → XK} {rm : RM} {X : Cx} {k : Nat} {f C : Addr} {fd : FuncData} {ps : List Str} {x n : Str} {e a b o : Expr} {st : Stmt} {es : List Expr} {ma mb : Mx} {mx mi : Mx} {ms : List Bool} {φ : List D → Rz} {p pos apos : Pos}
/-! # what is never come to -/
/-! # constants of the module -/
theorem imE_glob {v : V} {u : Value} {d : D} (hg : Gl X x) (hm : X.mg x = some u) (rv : RelV v u) (r : ∀ F, Rep L F v d) (hd : (x == ("__debug__" : Str)) = false := by decide) : ImE L E X (.Name x pos) (mC d) := imC (pe_glob hg hm rv hd) r
theorem imE_gint {i : Int} {t : Tok} (hm : X.mg x = some (.int i t)) (hg : Gl X x := by rfl) (hd : (x == ("__debug__" : Str)) = false := by decide) : ImE L E X (.Name x pos) (mC (.int i)) := imE_glob (v := .int i) hg hm ⟨_, rfl⟩ (fun _ => .int i) hd
theorem imE_gtup {q : Addr} {vs : List V} {ds : List D} (hm : X.mg x = some (.ref q)) (hs : ∀ F, SqT L.K F q vs) (r : ∀ F, RepA L F vs ds) (hg : Gl X x := by rfl) (hd : (x == ("__debug__" : Str)) = false := by decide) : ImE L E X (.Name x pos) (mC (.ctp ds)) := imE_glob (v := .ref q) hg hm rfl (fun F => .ctp (hs F) (r F)) hd
/-! # isinstance -/
def tyS : D → Option String
  | .non => some "NoneType"
  | .bl _ => some "bool"
  | .int _ => some "int"
  | .str _ => some "str"
  | .lst _ => some "list"
  | .scr _ => some "list"
  | .tup _ => some "tuple"
  | .ctp _ => some "tuple"
  | .dct _ => some "dict"
  | .obj _ _ => none
  | .exv _ => none
  | .tl _ _ => some "list"
  | .pt _ => none
structure InsC (K : PySem.W.Frag) (C : Addr) : Prop where
  cl : Cls K C
  ha : PySem.W.findIn K (.ref C) "__class__" = some (some (.builtin "object.__class__"))
  hn : PySem.W.specialIn K (.builtin "object.__class__") "__get__" = some (some (.builtin "getset_descriptor.__get__"))
  htk : PySem.W.takesIn K (.builtin "object.__class__") = some true
  hm : PySem.W.mroIn K C (.type "object") = some true
/-- what isinstance(.., u) answers, by the types and by the classes -/
structure IsiF (L : Lay) (K : PySem.W.Frag) (ans : Value → Option Bool) (f : List (String × Bool)) (cs : List (Nat × Bool)) : Prop where
  ty : ∀ q ∈ f, ans (.type q.1) = some q.2
  ob : ∀ q ∈ cs, ∃ C, L.cls[q.1]? = some C ∧ ans (.ref C) = some q.2 ∧ InsC K C
def gIsi (f : List (String × Bool)) (cs : List (Nat × Bool)) (d : D) : Option Bool := match tyS d with
  | some T => f.lookup T
  | none => match d with
    | .obj c _ => cs.lookup c
    | _ => none
theorem mem_lookup {α β : Type} [BEq α] [LawfulBEq α] {a : α} {b : β} : ∀ {l : List (α × β)}, l.lookup a = some b → (a, b) ∈ l
  | [], h => by cases h
  | (a', b') :: l, h => by
    by_cases e : a = a'
    · subst e
      simp [List.lookup] at h
      subst h
      exact List.mem_cons_self ..
    · have : (a == a') = false := by simpa using e
      simp only [List.lookup, this] at h
      exact List.mem_cons_of_mem _ (mem_lookup h)
theorem isi_ty {K : PySem.W.Frag} {ans : Value → Option Bool} {fl : List (String × Bool)} {cs : List (Nat × Bool)} (I : IsiF L K ans fl cs) (hK : L.K = K) {F H : Hp} {v : V} {d : D} {r : Bool} (s : Same F H) (t : Top L F H v d) (e : gIsi fl cs d = some r) : ∃ ty, TyX K H v ty ∧ ans ty = some r := by
  subst hK
  have hty : ∀ T, tyS d = some T → ans (.type T) = some r := fun T h => by
    unfold gIsi at e
    rw [h] at e
    exact I.ty _ (mem_lookup e)
  cases d with
  | non => cases t; exact ⟨_, .base .non, hty _ rfl⟩
  | bl b => cases t; exact ⟨_, .base (.bl b), hty _ rfl⟩
  | int i => cases t; exact ⟨_, .base (.int i), hty _ rfl⟩
  | str z => cases t; exact ⟨_, .base (.str z), hty _ rfl⟩
  | lst l => obtain ⟨a, vs, rfl, h, _⟩ := t; exact ⟨_, .base (.lst h), hty _ rfl⟩
  | scr l =>
    obtain ⟨a, rfl, h⟩ := t
    rcases h with (h | ⟨o, h⟩) | ⟨o, its, n, h1, h2, _⟩
    · exact ⟨_, .base (.lst h), hty _ rfl⟩
    · exact ⟨_, .base (.frz h), hty _ rfl⟩
    · exact ⟨_, .kList h1 h2, hty _ rfl⟩
  | tup l => obtain ⟨a, vs, rfl, h, _⟩ := t; exact ⟨_, .base (.tup (s _ _ h)), hty _ rfl⟩
  | ctp l =>
    obtain ⟨a, vs, rfl, h, _⟩ := t
    rcases h with (h | ⟨o, h⟩) | ⟨o, its, n, h1, h2, _⟩
    · exact ⟨_, .base (.tup (s _ _ h)), hty _ rfl⟩
    · exact ⟨_, .fTuple (s _ _ h), hty _ rfl⟩
    · exact ⟨_, .kTuple h1 h2, hty _ rfl⟩
  | dct l => obtain ⟨a, vs, rfl, h, _⟩ := t; exact ⟨_, .base (.dK h), hty _ rfl⟩
  | obj c l =>
    obtain ⟨a, C, dx, fs, rfl, h1, h2, _⟩ := t
    obtain ⟨C', e1, e2, ic⟩ := I.ob _ (mem_lookup (show cs.lookup c = some r from e))
    rw [h1] at e1
    cases e1
    exact ⟨_, .base (.ins h2 ic.cl ic.ha ic.hn ic.htk ic.hm), e2⟩
  | exv c => exact nomatch e
  | tl a l => obtain ⟨rfl, vs, h, _⟩ := t; exact ⟨_, .base (.lst h), hty _ rfl⟩
  | pt a => exact nomatch e
def mIsi (fl : List (String × Bool)) (cs : List (Nat × Bool)) (mo : Mx) : Me := fun env => (mo env).bind fun y env1 => match deref env1 y with
  | some d => liftO ((gIsi fl cs d).map D.bl) env1
  | none => .no
/-- isinstance(e, c) -/
theorem imE_isi {fl : List (String × Bool)} {cs : List (Nat × Bool)} {u : Value} {v : V} (I : IsiF L X.K (fun t => PySem.W.kitOne X.K t u) fl cs) (hK : L.K = X.K) (hu : ClsV v u) (hb : PE X b (tC v)) (hg : Gl X "isinstance") (hm : X.mg "isinstance" = none) (ho : ImX L E X a mx)
    (hst : starEach [a, b] X.env = (false, eval a X.env) :: starEach [b] X.env := by rfl) (hst2 : starEach [b] X.env = (false, eval b X.env) :: starEach [] X.env := by rfl) (hpl : (backTo pos (starEach [b] X.env)).any (·.1) = false := by rfl) : ImE L E X (.Call (.Name "isinstance" p) [a, b] [] pos) (mIsi fl cs mx) := by
  obtain ⟨to, po, io⟩ := ho
  refine ⟨_, pe_callB call_isi hg hm (by rfl) (pa_cons po (pa_cons hb pa_nil hst2) hst) (by decide) (by decide) hst hpl, fun Z σ env F H Q k h => io Z σ env F H _ k (Post.bind h fun y env1 w F1 H1 g rv h => ?_)⟩
  cases q : deref env1 y with
  | none => rw [q] at h; exact h.elim
  | some d =>
    rw [q] at h
    obtain ⟨d', ed, hw⟩ := Post.some h
    cases q2 : gIsi fl cs d with
    | none => rw [q2] at ed; cases ed
    | some r =>
      rw [q2] at ed
      cases ed
      obtain ⟨ty, h1, h2⟩ := isi_ty I hK g.ok.fh (RelX.top g.ok rv q) q2
      exact ⟨w, v, ty, u, r, rfl, hu, h1, h2, hw _ F1 H1 (Go.refl g.ok) (.bl r)⟩
/-- isinstance(e, (c, d)) -/
theorem imE_isi2 {fl : List (String × Bool)} {cs : List (Nat × Bool)} {u u2 : Value} {v v2 : V} {c d : Expr} {x1 : Nat} {tp : Pos} (I : IsiF L X.K (fun t => PySem.W.kitAny X.K t [u, u2]) fl cs) (hK : L.K = X.K) (hu : ClsV v u) (hu2 : ClsV v2 u2) (hc : PE X c (tC v)) (hd : PE X d (tC v2)) (hg : Gl X "isinstance") (hm : X.mg "isinstance" = none) (ho : ImX L E X a mx)
    (hs1 : starEach [c, d] X.env = (false, eval c X.env) :: starEach [d] X.env := by rfl) (hs2 : starEach [d] X.env = (false, eval d X.env) :: starEach [] X.env := by rfl)
    (hst : starEach [a, .Tuple [c, d] x1 tp] X.env = (false, eval a X.env) :: starEach [.Tuple [c, d] x1 tp] X.env := by rfl) (hst2 : starEach [.Tuple [c, d] x1 tp] X.env = (false, eval (.Tuple [c, d] x1 tp) X.env) :: starEach [] X.env := by rfl) (hpl : (backTo pos (starEach [.Tuple [c, d] x1 tp] X.env)).any (·.1) = false := by rfl) : ImE L E X (.Call (.Name "isinstance" p) [a, .Tuple [c, d] x1 tp] [] pos) (mIsi fl cs mx) := by
  obtain ⟨to, po, io⟩ := ho
  refine ⟨_, pe_callB call_isiT hg hm (by rfl) (pa_cons po (pa_cons (pe_tup (pa_cons hc (pa_cons hd pa_nil hs2) hs1)) pa_nil hst2) hst) (by decide) (by decide) hst hpl, fun Z σ env F H Q k h => io Z σ env F H _ k (Post.bind h fun y env1 w F1 H1 g rv h => ?_)⟩
  cases q : deref env1 y with
  | none => rw [q] at h; exact h.elim
  | some d =>
    rw [q] at h
    obtain ⟨d', ed, hw⟩ := Post.some h
    cases q2 : gIsi fl cs d with
    | none => rw [q2] at ed; cases ed
    | some r =>
      rw [q2] at ed
      cases ed
      refine ⟨(by show 2 ≤ sizeLine; decide), fun l hl => ?_⟩
      have g2 := Go.more g.ok (same_upd (o := .tup [v, v2]) hl)
      have rv2 : RelX L F1 σ w y := rv
      obtain ⟨ty, h1, h2⟩ := isi_ty I hK g2.ok.fh (RelX.top g2.ok rv2 q) q2
      exact ⟨w, l, [v, v2], ty, [u, u2], r, rfl, upd_same, .cons hu (.cons hu2 .nil), h1, h2, hw _ F1 _ g2 (.bl r)⟩
end
end Pu

/-! # Pu18 -/
namespace Pu
open PySem PySem.Spec PyProof.Rows L2 Tc
/-! # objects: walked, compared, searched, added -/
def iObj (c kf : Nat) (mo : Mx) : Env' → Rx (List D) := fun env => (mo env).bind fun y env1 => match deref env1 y with
  | some (.obj c' fs) => if c' = c then liftO (match fs.lookup kf with
    | some (.tup ds) => some ds
    | _ => none) env1 else .no
  | _ => .no
/-- types that the left one does not come first with -/
structure NfF (L : Lay) (K : PySem.W.Frag) (C : Addr) (ts : List String) (cs : List Nat) : Prop where
  ty : ∀ T ∈ ts, PySem.W.notFirst K C (.type T) = true
  ob : ∀ c ∈ cs, ∃ C', L.cls[c]? = some C' ∧ PySem.W.notFirst K C (.ref C') = true
/-- what Tys sees -/
def tysS : D → Option String
  | .non => some "NoneType"
  | .bl _ => some "bool"
  | .int _ => some "int"
  | .str _ => some "str"
  | .lst _ => some "list"
  | .tup _ => some "tuple"
  | .dct _ => some "dict"
  | .tl _ _ => some "list"
  | _ => none
def tyM (ts : List String) (cs : List Nat) (d : D) : Bool := match tysS d with
  | some T => ts.contains T
  | none => match d with
    | .obj c _ => cs.contains c
    | _ => false
def tyMo (ts : List String) (cs : List Nat) : Option D → Bool
  | some d => tyM ts cs d
  | none => false
def mCmpO (c : Nat) (ts : List String) (cs : List Nat) (φ : List D → Rz) (ms : List Bool) (ma mb : Mx) : Me := fun env => (ma env).bind fun x env1 => (mb env1).bind fun y env2 => if isObj' c (deref env2 x) = true ∧ tyMo ts cs (deref env2 y) = true then (callZ φ ms [x, y] env2).nox else .no
def mAddO (c : Nat) (ts : List String) (φ : List D → Rz) (ms : List Bool) (ma mb : Mx) : Me := fun env => (ma env).bind fun x env1 => (mb env1).bind fun y env2 => if isObj' c (deref env2 x) = true ∧ tyMo ts [c] (deref env2 y) = true then callZ φ ms [x, y] env2 else .no
section
variable {L : Lay} {E : L2.St → XK} {rm : RM} {X : Cx} {k : Nat} {f g0 C : Addr} {fd : FuncData} {ps : List Str} {x n : Str} {e a b o tg : Expr} {es : List Expr} {ma mb : Mx} {mx mi : Mx} {ms : List Bool} {φ : List D → Rz} {p pos apos : Pos} {F H : Hp}
theorem top_tys {K : PySem.W.Frag} {v : V} {d : D} {T : String} (s : Same F H) (t : Top L F H v d) (e : tysS d = some T) : Tys K H v (.type T) := by
  cases d with
  | non => cases t; cases e; exact .non
  | bl b => cases t; cases e; exact .bl b
  | int i => cases t; cases e; exact .int i
  | str z => cases t; cases e; exact .str z
  | lst l => obtain ⟨a, vs, rfl, h, _⟩ := t; cases e; exact .lst h
  | tup l => obtain ⟨a, vs, rfl, h, _⟩ := t; cases e; exact .tup (s _ _ h)
  | dct l => obtain ⟨a, vs, rfl, h, _⟩ := t; cases e; exact .dct h
  | tl b l => obtain ⟨rfl, vs, h, _⟩ := t; cases e; exact .lst h
  | _ => cases e
theorem nf_tys {K : PySem.W.Frag} {ts : List String} {cs : List Nat} (N : NfF L K C ts cs) {v : V} {d : D} (s : Same F H) (t : Top L F H v d) (e : tyM ts cs d = true) : ∃ ty, Tys K H v ty ∧ PySem.W.notFirst K C ty = true := by
  unfold tyM at e
  cases q : tysS d with
  | some T =>
    rw [q] at e
    exact ⟨_, top_tys s t q, N.ty T (by simpa using e)⟩
  | none =>
    rw [q] at e
    cases d with
    | obj c fs =>
      obtain ⟨a, C', dx, vs, rfl, h1, h2, h3⟩ := t
      obtain ⟨C2, e1, e2⟩ := N.ob c (by simpa using e)
      rw [h1] at e1
      cases e1
      exact ⟨_, .ins h2, e2⟩
    | _ => exact absurd e (by simp)
theorem imE_cmpO {op : CmpOp} {c : Nat} {ts : List String} {cs : List Nat} (cf : ClsF L X.K c C) (hop : OpR X (compareOp op) (rCmpO X.K C (spF L ms false φ))) (N : NfF L X.K C ts cs) (ha : ImX L E X a ma) (hb : ImX L E X b mb) (hm : behindInMarks op b = false := by first | exact nomark _ | rfl) : ImE L E X (.Compare a [op] [b] pos) (mCmpO c ts cs φ ms ma mb) := by
  obtain ⟨ta, pa, ia⟩ := ha
  obtain ⟨tb, pb, ib⟩ := hb
  refine ⟨_, pe_cmpR hop pa pb hm, fun Z σ env F H Q k h => ia Z σ env F H _ k (Post.bindAt (Go.refl k) h fun y env1 v F1 H1 g rv h => ?_)⟩
  refine ib Z σ env1 F1 H1 _ g.ok (Post.bindAt g h fun z env2 u F2 H2 g2 ru h => ?_)
  by_cases hy : isObj' c (deref env2 y) = true ∧ tyMo ts cs (deref env2 z) = true
  case neg => rw [if_neg hy] at h; exact h.elim
  rw [if_pos hy] at h
  obtain ⟨hy, hz⟩ := hy
  cases q : deref env2 y with
  | none => rw [q] at hy; cases hy
  | some d =>
    rw [q] at hy
    cases q2 : deref env2 z with
    | none => rw [q2] at hz; cases hz
    | some d2 =>
      rw [q2] at hz
      obtain ⟨q', dx, fs, ds, rfl, rfl, h1, h2⟩ := obj_top cf.at_ (RelX.top g2.ok (RelX.mono rv g2.ff) q) hy
      obtain ⟨ty, t1, t2⟩ := nf_tys (K := X.K) N g2.ok.fh (RelX.top g2.ok ru q2) hz
      refine ⟨q', dx, fs, ty, rfl, h1, t1, t2, ?_⟩
      exact call_core (E := fun _ => E0) (o := false) (σ := σ) g2.ok (.cons (RelX.mono rv g2.ff) (.cons ru .nil)) (Post.nox (Post.from (g.trans g2) h))
/-! ## added -/
end
end Pu

/-! # Pu19 -/
namespace Pu
open PySem PySem.Spec PyProof.Rows L2 Tc
/-! # small things for the printed terms -/
theorem Room.u100 {k : Nat} {A : Around} (r : Room k A) : A.units + 100 < cLine := by have := r.un; omega
theorem pass_at {X : Cx} {E : XK} (tk : L2.Takes X (fun cls d _ H => E cls d H)) : ∀ σ : L2.St, PassesAt (CXX X) X σ ((fun _ => E) σ) := fun σ pins H s e s' I h => passes_call tk (fun _ _ _ _ h => h) pins σ H s e s' I h
theorem pass_no {X : Cx} : ∀ σ : L2.St, PassesAt (CXX X) X σ (EF σ) := fun _ => passLS
/-- it never goes on behind -/
def NeNx (m : Ms) : Prop := ∀ env e, m env ≠ .nx e
theorem neNx_ret {me : Me} : NeNx (sRet me) := fun env e z => by
  unfold sRet thenS at z
  split at z <;> cases z
theorem all_nil {α : Type} {P : α → Prop} : ∀ q ∈ ([] : List α), P q := fun q h => by cases h
theorem all_cons {α : Type} {P : α → Prop} {a : α} {l : List α} (h : P a) (r : ∀ q ∈ l, P q) : ∀ q ∈ a :: l, P q := fun q m => by
  rcases List.mem_cons.mp m with rfl | m
  · exact h
  · exact r q m
/-- isinstance of a built-in type -/
theorem isiB {L : Lay} {K : PySem.W.Frag} {u : String} {f : List (String × Bool)} {cs : List (Nat × Bool)} (h : f.all (fun q => kitB q.1 u == some q.2) = true) (ob : ∀ q ∈ cs, ∃ C, L.cls[q.1]? = some C ∧ PySem.W.kitOne K (.ref C) (.type u) = some q.2 ∧ InsC K C) : IsiF L K (fun t => PySem.W.kitOne K t (.type u)) f cs :=
  ⟨fun q hq => kit_ty (by simpa using (List.all_eq_true.mp h) q hq), ob⟩
def kitB2 (a b c : String) : Option Bool := match kitB a b with
  | some true => some true
  | some false => kitB a c
  | none => none
theorem isiB2 {L : Lay} {K : PySem.W.Frag} {u u2 : String} {f : List (String × Bool)} {cs : List (Nat × Bool)} (h : f.all (fun q => kitB2 q.1 u u2 == some q.2) = true) (ob : ∀ q ∈ cs, ∃ C, L.cls[q.1]? = some C ∧ PySem.W.kitOne K (.ref C) (.type u) = some false ∧ PySem.W.kitOne K (.ref C) (.type u2) = some false ∧ q.2 = false ∧ InsC K C) : IsiF L K (fun t => PySem.W.kitAny K t [.type u, .type u2]) f cs := by
  refine ⟨fun q hq => ?_, fun q hq => ?_⟩
  · have := (List.all_eq_true.mp h) q hq
    have e : kitB2 q.1 u u2 = some q.2 := by simpa using this
    unfold kitB2 at e
    cases q1 : kitB q.1 u with
    | none => rw [q1] at e; cases e
    | some b =>
      rw [q1] at e
      cases b with
      | true =>
        have e := Option.some.inj e
        exact kitAny_cons (b := true) (kit_ty q1) (fun z => Bool.noConfusion z) fun _ => e.symm
      | false =>
        have e2 : kitB q.1 u2 = some q.2 := e
        refine kitAny_cons (b := false) (kit_ty q1) (fun _ => ?_) fun z => Bool.noConfusion z
        cases q2 : q.2 with
        | true => rw [q2] at e2; exact kitAny_cons (b := true) (kit_ty e2) (fun z => Bool.noConfusion z) fun _ => rfl
        | false => rw [q2] at e2; exact kitAny_cons (b := false) (kit_ty e2) (fun _ => kitAny_nil) fun z => Bool.noConfusion z
  · obtain ⟨C, h1, h2, h3, h4, h5⟩ := ob q hq
    exact ⟨C, h1, by rw [h4]; exact kitAny_cons (b := false) h2 (fun _ => kitAny_cons (b := false) h3 (fun _ => kitAny_nil) fun z => Bool.noConfusion z) fun z => Bool.noConfusion z, h5⟩
/-- isinstance of an own class -/
theorem isiO {L : Lay} {K : PySem.W.Frag} {C0 : Addr} {f : List (String × Bool)} {cs : List (Nat × Bool)} (ty : ∀ q ∈ f, PySem.W.kitOne K (.type q.1) (.ref C0) = some q.2) (ob : ∀ q ∈ cs, ∃ C, L.cls[q.1]? = some C ∧ PySem.W.kitOne K (.ref C) (.ref C0) = some q.2 ∧ InsC K C) : IsiF L K (fun t => PySem.W.kitOne K t (.ref C0)) f cs := ⟨ty, ob⟩
end Pu

/-! # PuZ -/
namespace Pz
open PySem PySem.Spec PyProof.Rows PySem.W
/-! # list(zip(xs, ys, zs)) -/
section
variable {prog : Program} {w : World} {A : Around} {E : Value → Shared → Prop} {s : Shared} {z TI TO T i1 i2 i3 : Addr} {f : Bool} {oT : Obj} {fp1 fp2 fp3 : List Addr} {n1 n2 n3 i : Nat} {P1 P2 P3 : Nat → Value → Prop} {St1 St2 St3 : Nat → Heap → Prop}
end
end Pz

/-! # PuZ2 -/
namespace Pz
open PySem PySem.Spec PyProof.Rows PySem.W
/-- where the zip stands -/
structure Zst (h : Heap) (z TI TO i1 i2 i3 l1 l2 l3 S : Addr) (xs ys us : Array Value) (i : Nat) : Prop where
  ti : IsTupOf3 h TI (.ref i1) (.ref i2) (.ref i3)
  p1 : h.IsListIter i1 l1 i ∧ h.IsList l1 xs
  p2 : h.IsListIter i2 l2 i ∧ h.IsList l2 ys
  p3 : h.IsListIter i3 l3 i ∧ h.IsList l3 us
  at_ : (IsZip h z TI TO .none ∧ ∃ a b c, IsTupOf3 h TO a b c) ∨ ∃ T f oT, IsZipHeld h z TI TO T f ∧ h.get? T = some oT ∧ T ≠ z ∧ T ≠ i1 ∧ T ≠ i2 ∧ T ≠ i3 ∧ T ≠ S
/-- what has been made -/
structure Zmd (xs ys us : Array Value) (lo : Addr) (h : Heap) (as : List Addr) : Prop where
  rise : as.Pairwise (· < ·)
  above : ∀ a ∈ as, lo < a
  trip : ∀ (j : Nat) (a : Addr), as[j]? = some a → ∃ x y u, xs[j]? = some x ∧ ys[j]? = some y ∧ us[j]? = some u ∧ IsTupOf3 h a x y u
theorem Zmd.there {xs ys us : Array Value} {lo : Addr} {h : Heap} {as : List Addr} (g : Zmd xs ys us lo h as) {a : Addr} (ha : a ∈ as) : a < h.objs.size := by
  obtain ⟨j, hj⟩ := List.mem_iff_getElem?.mp ha
  obtain ⟨_, _, _, _, _, _, e⟩ := g.trip j a hj
  exact Heap.lt_size e
section
variable {prog : Program} {w : World} {A : Around} {E : Value → Shared → Prop} {s : Shared} {z TI TO i1 i2 i3 l1 l2 l3 S : Addr} {n : Nat} {xs ys us : Array Value}
structure Zap (z TI TO i1 i2 i3 l1 l2 l3 S : Addr) : Prop where
  sp : ZipSep3 z TI TO i1 i2 i3 [i1, l1] [i2, l2] [i3, l3]
  zS : z < S
  tS : TI < S
  oS : TO < S
  s1 : i1 < S
  s2 : i2 < S
  s3 : i3 < S
  m1 : l1 < S
  m2 : l2 < S
  m3 : l3 < S
  d1 : l1 ≠ i1
  d2 : l2 ≠ i2
  d3 : l3 ≠ i3
theorem Zst.keep {h h' : Heap} {i : Nat} (Z : Zap z TI TO i1 i2 i3 l1 l2 l3 S) (x : Zst h z TI TO i1 i2 i3 l1 l2 l3 S xs ys us i) (k : ∀ b o, b ≠ S → h.get? b = some o → h'.get? b = some o) : Zst h' z TI TO i1 i2 i3 l1 l2 l3 S xs ys us i where
  ti := k _ _ (Nat.ne_of_lt Z.tS) x.ti
  p1 := ⟨x.p1.1.at fun o e => k _ o (Nat.ne_of_lt Z.s1) e, x.p1.2.at fun o e => k _ o (Nat.ne_of_lt Z.m1) e⟩
  p2 := ⟨x.p2.1.at fun o e => k _ o (Nat.ne_of_lt Z.s2) e, x.p2.2.at fun o e => k _ o (Nat.ne_of_lt Z.m2) e⟩
  p3 := ⟨x.p3.1.at fun o e => k _ o (Nat.ne_of_lt Z.s3) e, x.p3.2.at fun o e => k _ o (Nat.ne_of_lt Z.m3) e⟩
  at_ := by
    rcases x.at_ with ⟨hz, a, b, c, ht⟩ | ⟨T, f, oT, hz, ht, r0, r1, r2, r3, r4⟩
    · exact .inl ⟨k _ _ (Nat.ne_of_lt Z.zS) hz, a, b, c, k _ _ (Nat.ne_of_lt Z.oS) ht⟩
    · exact .inr ⟨T, f, oT, k _ _ (Nat.ne_of_lt Z.zS) hz, k _ _ r4 ht, r0, r1, r2, r3, r4⟩
end
section
variable {prog : Program} {w : World} {A : Around} {s : Shared} {R : Result → Shared → Prop} {z TI TO i1 i2 i3 l1 l2 l3 S : Addr} {n : Nat} {xs ys us : Array Value}
end
end Pz

/-! # PuZ3 -/
namespace Pz
open PySem PySem.Spec PyProof.Rows PySem.W
section
variable {prog : Program} {w : World} {A : Around} {E : Value → Shared → Prop} {s : Shared} {z TI TO i1 i2 i3 l1 l2 l3 : Addr} {xs ys us : Array Value}
end
end Pz
namespace Pu
open PySem PySem.Spec PyProof.Rows L2 Pz
section
variable {X : Cx} {a b c : Expr} {ta : TA} {p p2 pos pos2 : Pos}
end
end Pu

/-! # Pu20 -/
namespace Pu
open PySem PySem.Spec PyProof.Rows L2 Tc
/-! # list(zip(a, b, c)) -/
section
variable {L : Lay} {Z F H : Hp} {σ : L2.St} {env : Env'}
end
section
variable {L : Lay} {E : L2.St → XK} {X : Cx} {a b c : Expr} {ma : Mxs} {pos pos2 p p2 : Pos}
end
/-! # facts of classes -/
theorem kit_own {K : PySem.W.Frag} {C : Addr} {x : String} (h1 : PySem.W.isClsIn K C = true) (h2 : PySem.W.typeIn K (.ref C) = some (.type "type")) (h3 : PySem.W.subIn K (.type x) (.ref C) = some false) : PySem.W.kitOne K (.type x) (.ref C) = some false := by
  have e1 : ((PySem.W.clsIn K C).isSome && PySem.W.typeIn K (.ref C) == some (.type "type")) = true := by
    have h5 : (PySem.W.clsIn K C).isSome = true := h1
    rw [h5, h2] <;> rfl
  have e0 : ¬ ((Value.type x == Value.ref C) = true) := by simp
  unfold PySem.W.kitOne
  rw [if_neg e0]
  show (if ((PySem.W.clsIn K C).isSome && PySem.W.typeIn K (.ref C) == some (.type "type")) = true then PySem.W.subIn K (.type x) (.ref C) else none) = some false
  rw [if_pos e1]
  exact h3
theorem kit_up {K : PySem.W.Frag} {C : Addr} {x : String} (h1 : PySem.W.kitMeta x = true) (h3 : PySem.W.subIn K (.ref C) (.type x) = some false) : PySem.W.kitOne K (.ref C) (.type x) = some false := by
  have e0 : ¬ ((Value.ref C == Value.type x) = true) := by simp
  unfold PySem.W.kitOne
  rw [if_neg e0]
  show (if PySem.W.kitMeta x = true then PySem.W.subIn K (.ref C) (.type x) else none) = some false
  rw [if_pos h1]
  exact h3
theorem kit_self {K : PySem.W.Frag} {C : Addr} : PySem.W.kitOne K (.ref C) (.ref C) = some true := by
  unfold PySem.W.kitOne
  rw [if_pos (by simp)]
theorem notFirst_of {K : PySem.W.Frag} {C : Addr} {x : String} (h : PySem.W.subIn K (.type x) (.ref C) = some false) : PySem.W.notFirst K C (.type x) = true := by
  unfold PySem.W.notFirst
  rw [h]
  simp
theorem notFirst_self {K : PySem.W.Frag} {C : Addr} : PySem.W.notFirst K C (.ref C) = true := by
  unfold PySem.W.notFirst
  simp
/-! # the law -/
/-- the heap but for the tables -/
def noTb : HO → Option HO
  | .tbl _ => none
  | o => some o
theorem noTb_eq {o u : HO} (h : noTb o = some u) : o = u ∧ ∀ ps, u ≠ .tbl ps := by
  cases o with
  | tbl ps => cases h
  | _ =>
    cases h
    exact ⟨rfl, fun _ z => nomatch z⟩
def cutT (H : Hp) : Hp := fun b => (H b).bind noTb
theorem cutT_same (H : Hp) : Same (cutT H) H := fun b o e => by
  unfold cutT at e
  cases q : H b with
  | none => rw [q] at e; cases e
  | some u =>
    rw [q] at e
    rw [(noTb_eq e).1]
theorem cutT_nt (L : Lay) (H : Hp) : NtF L (cutT H) := fun b o e => by
  unfold cutT at e
  cases q : H b with
  | none => rw [q] at e; cases e
  | some u =>
    rw [q] at e
    exact .inr (noTb_eq e).2
theorem cutT_seq {H : Hp} {K : PySem.W.Frag} {a : Addr} {xs : List V} (h : SqL K H a xs) : SqL K (cutT H) a xs := by
  rcases h with (h | ⟨o, h⟩) | h
  · exact .inl (.inl (by unfold cutT; rw [h]; rfl))
  · exact .inl (.inr ⟨o, by unfold cutT; rw [h]; rfl⟩)
  · exact .inr h
theorem law_mean {P : Program} {w : World} {K : PySem.W.Frag} {mg : Str → Option Value} {base : Heap} {L : Lay} {qual : Str} {x : Str} {st : Stmt} {f : Addr} {fd : FuncData} {N : List Str} {k : Nat} {m : Ms} {a : Addr} {ns : List Int} {s : Shared} {H : Hp}
    (Fn : Fun K "law" qual st f fd) (S : FnScope N [x] (defScope st)) (hn : 1 ≤ N.length) (hK : L.K = K) (room : Room (k + 1) callerA) (e0 : Env0 P w K mg base callerA [] s H) (hb : BindsTo s fd ⟨[.ref a], []⟩ [(x, .ref a)]) (hS : SqL K H a (ns.map V.int))
    (hbody : ∀ cdv, Room k (callerA.deeper (envOfC qual (defScope st) s.heap.objs.size f cdv)) → ImB L (fun _ => E0) (rmD L) (cxOf CX0 P w K mg base N qual (defScope st) f cdv callerA [] s H E0).nox (defBody st) m)
    (hm : runF [false] N.length m [.scr ns] = .ok (.bl true) []) (hT : LamX.Tabs L.tabs H := by exact Tb.nil rfl) :
    codeAny (model P w) callerA (.call (.ref f) ⟨[.ref a], []⟩) (CR CX0 [] P w H s (fun v _ => v = .bl true) fun _ _ _ => False) s := by
  refine fn_here (us := [.ref a]) (vs := [.ref a]) Fn S room e0 hb (.cons rfl .nil) rfl (fun cdv hr => ?_)
  obtain ⟨t, p, i⟩ := hbody cdv hr
  have sq : SqL L.K (cutT H) a (ns.map V.int) := cutT_seq (by rw [hK]; exact hS)
  refine ⟨_, PSs.nox p, i (cutL L H) (start N [.ref a]) (startE [false] N.length [.scr ns]) (cutT H) H _ (ok_start ⟨cutT_same H, hT, cutT_nt L H⟩ (.dat (.scr ns sq) .nil) (by simp [ioA]) hn) ?_⟩
  unfold runF at hm
  cases q : m (startE [false] N.length [.scr ns]) with
  | nx e =>
    rw [q] at hm
    dsimp only at hm
    cases q2 : iosE [false] e with
    | none => rw [q2] at hm; cases hm
    | some ios => rw [q2] at hm; cases hm
  | rt d e =>
    rw [q] at hm
    dsimp only at hm
    cases q2 : iosE [false] e with
    | none => rw [q2] at hm; cases hm
    | some ios =>
      rw [q2] at hm
      cases hm
      intro v σ' F' H' g r
      cases (show Rep L F' v (.bl true) from r)
      rfl
  | bk e => rw [q] at hm; cases hm
  | ct e => rw [q] at hm; cases hm
  | no => rw [q] at hm; cases hm
  | er c fs e =>
    rw [q] at hm
    dsimp only at hm
    cases q2 : iosE [false] e with
    | none => rw [q2] at hm; cases hm
    | some ios => rw [q2] at hm; cases hm
end Pu

/-! # Pu21 -/
namespace Pu
open PySem PySem.Spec PyProof.Rows L2 Tc
/-! # exceptions: what is raised -/
/-- __init__ of an exception: it sets its fields, one behind the other -/
def spXi (C : Addr) (fs : List Str) : Sp := fun vs H Q _ => ∃ (p : Addr) (xs : List V), vs = .ref p :: xs ∧ H p = some (exo p C none) ∧ xs.length = fs.length ∧ ∀ dx, H dx = none → dx ≠ p → Q .non (upd (upd H dx (exd dx (fs.zip xs).reverse)) p (exo p C (some dx)))
section
variable {P : Program} {w : World} {K : PySem.W.Frag} {mg : Str → Option Value} {base : Heap}
theorem fn_xi1 {x qual f : Str} {st : Stmt} {fa C : Addr} {fd : FuncData} {p1 p2 p3 p4 : Pos} (F : Fun K x qual st fa fd) (S : FnScope ["self", f] ["self", f] (defScope st)) (T : OexC K C) (v : PySem.W.findIn K (.ref C) f = some none)
    (hb : defBody st = [.Assign [.Attribute (.Name "self" p1) f p2] (.Name f p3) p4]) (hv : Vis (defScope st) f) (hs : Vis (defScope st) "self") (hd : (f == ("__debug__" : Str)) = false) (hc : (f == ("__classdict__" : Str)) = false) : FnOk P w K mg base (L2.CX P w) 1 fa fd ["self", f] (spXi C [f]) := by
  refine F.okX S (fun vs H Q E h => ?_) (fun cdv A outer s H vs Q E hr h => ?_)
  · obtain ⟨p, xs, rfl, _, hl, _⟩ := h
    simp [hl]
  · obtain ⟨p, xs, rfl, hp, hl, q⟩ := h
    obtain ⟨y, rfl⟩ : ∃ y, xs = [y] := by
      cases xs with
      | nil => simp at hl
      | cons y xs =>
        cases xs with
        | nil => exact ⟨y, rfl⟩
        | cons _ _ => simp at hl
    rw [hb]
    refine ⟨_, pss_one (ps_ost (pe_var (i := 0) rfl hs) (pe_var (i := 1) rfl hv hd hc)), _, rfl, _, rfl, p, C, rfl, T, v, .inl ⟨hp, fun dx h1 h2 => q dx h1 h2⟩⟩
end
/-- the fields' numbers -/
def NmF (L : Lay) : List Nat → List Str → Prop
  | [], [] => True
  | k :: ks, f :: fs => L.nms[k]? = some f ∧ NmF L ks fs
  | _, _ => False
theorem NmF.rep {L : Lay} {F : Hp} : ∀ {ks : List Nat} {fs : List Str} {vs : List V} {ds : List D}, NmF L ks fs → RepA L F vs ds → vs.length = fs.length → RepF L F (fs.zip vs) (ks.zip ds)
  | [], [], _, _, _, r, _ => by simp; exact .nil
  | k :: ks, f :: fs, v :: vs, d :: ds, ⟨h, n⟩, .cons r rs, l => .cons h r (NmF.rep n rs (by simpa using l))
  | k :: ks, f :: fs, [], _, _, _, l => by simp at l
  | [], _ :: _, _, _, n, _, _ => n.elim
  | _ :: _, [], _, _, n, _, _ => n.elim
theorem RepF.append {L : Lay} {F : Hp} : ∀ {vs ws : List (Str × V)} {ds es : List (Nat × D)}, RepF L F vs ds → RepF L F ws es → RepF L F (vs ++ ws) (ds ++ es)
  | _, _, _, _, .nil, s => s
  | _, _, _, _, .cons h r t, s => .cons h r (t.append s)
theorem RepF.reverse {L : Lay} {F : Hp} : ∀ {vs : List (Str × V)} {ds : List (Nat × D)}, RepF L F vs ds → RepF L F vs.reverse ds.reverse
  | _, _, .nil => .nil
  | _, _, .cons h r t => by
    rw [List.reverse_cons, List.reverse_cons]
    exact t.reverse.append (.cons h r .nil)
def sRaise (c : Nat) (ks : List Nat) (ma : Ma) : Ms := fun env => thenS (ma env) fun ds env1 => if ds.length = ks.length then .er c (ks.zip ds).reverse env1 else .no
section
variable {L : Lay} {E : L2.St → XK} {rm : RM} {X : Cx} {e : Expr} {es : List Expr} {ma : Ma} {x : Str} {p pos pos' : Pos} {W : WX} {C fI : Addr} {k : Nat} {fd : FuncData} {ps : List Str} {c : Nat} {ks : List Nat} {fs : List Str}
theorem imS_raise (hc : X.calm = true) (tk : Takes X W) (hW : ∀ cls d σ H, E σ cls d H → W cls d σ H) (hC : L.xcs[c]? = some C) (nm : NmF L ks fs) (T : OexC X.K C) (iC : PySem.W.findIn X.K (.ref C) "__init__" = some (some (.ref fI))) (tI : PySem.W.typeIn X.K (.ref fI) = some (.type "function"))
    (G : FnOk X.prog X.w X.K X.mg X.base (L2.CX X.prog X.w) k fI fd ps (spXi C fs)) (hr : Room (k + 1) X.A) (hb : Binds X.K fd ps []) (hg : Gl X x) (hm : X.mg x = some (.ref C)) (ha : ImA L E X (e :: es) ma) (hk : ks.length = fs.length) (hz : fs.length ≤ 1000)
    (hdb : (x == ("__debug__" : Str)) = false := by decide) (he : starEach (e :: es) X.env = (false, eval e X.env) :: starEach es X.env := by rfl) (hpl : (backTo pos (starEach es X.env)).any (·.1) = false := by rfl) :
    ImS L E rm X (.Raise (some (.Call (.Name x p) (e :: es) [] pos)) none pos') (sRaise c ks ma) := by
  obtain ⟨ta, pa, ia⟩ := ha
  refine ⟨_, ps_raise hc tk (pmk_oex T iC tI G hr hb .nil passL hg hm pa hdb he hpl), fun Z σ env F H N k0 h => ?_⟩
  refine ia Z σ env F H _ k0 (PostS.bind h fun ds env1 vs F1 H1 g rv h => ?_)
  by_cases hl : ds.length = ks.length
  case neg => rw [if_neg hl] at h; exact h.elim
  rw [if_pos hl] at h
  have rv : RepA L F1 vs ds := rv
  have lv := rv.length
  refine ⟨by omega, fun a ha => ⟨a, vs, by rw [List.append_nil], upd_same, by omega, fun dx h1 h2 => ⟨rfl, dx, (fs.zip vs).reverse, upd_same, ?_, ?_, ?_⟩⟩⟩
  · rw [upd_ne h2, upd_same]
  · rw [upd_ne h2] at h1
    exact h1
  · rw [upd_ne h2] at h1
    refine hW _ _ _ _ (h C (some dx) σ F1 _ _ hC (Go.more g.ok fun b o e => ?_) (.inl ⟨dx, rfl, upd_same⟩) (NmF.rep nm rv (by omega)).reverse)
    have n1 : b ≠ dx := fun q => by
      rw [q, h1] at e
      cases e
    have n2 : b ≠ a := fun q => by
      rw [q, ha] at e
      cases e
    rw [upd_ne n1, del_ne n2, upd_ne n2, upd_ne n1, upd_ne n2]
    exact e
end
end Pu

/-! # Pu22 -/
namespace Pu
open PySem PySem.Spec PyProof.Rows L2 Tc
/-- a clause with a name: its class, the slot of its name, its suite; what several of them, one behind the other, wish of an exception of the body -/
inductive Hl where
  | co (c : Value) (i : Nat) (ts : Suite)
  | cu (c : Value) (ts : Suite)
  | stop
def wHl (K : PySem.W.Frag) (Wz : WX) (D : Ends) : List Hl → WX
  | [] => Wz
  | .stop :: _ => fun _ _ _ _ => False
  | .co c i ts :: more => fun cl d σ H => ∃ hit, PySem.W.exmOne K cl c = some hit ∧
      (hit = true → ∀ a, H a = none → ts a cl d { nx := fun σ' H' => D.nx (σ'.set i none) H', rt := D.rt, bk := fun σ' H' => D.bk (σ'.set i none) H', ct := fun σ' H' => D.ct (σ'.set i none) H' } (σ.set i (some (.ref a))) H) ∧
      (hit = false → wHl K Wz D more cl d σ H)
  | .cu c ts :: more => fun cl d σ H => ∃ hit, PySem.W.exmOne K cl c = some hit ∧ (hit = true → ∀ a, H a = none → ts a cl d D σ H) ∧ (hit = false → wHl K Wz D more cl d σ H)
inductive HlOk (X : Cx) : List ExceptHandler → List Hl → Prop
  | no : HlOk X [] []
  | stop {hs : List ExceptHandler} {l : List Hl} : HlOk X hs (.stop :: l)
  | co {x n : Str} {c : Value} {i : Nat} {ts : Suite} {st₀ : Stmt} {sts : List Stmt} {p1 p2 : Pos} {hs : List ExceptHandler} {l : List Hl}
      (hN : X.N.Nodup) (hi : X.N[i]? = some n) (hn : X.env.kindOf n = some .local) (hc : Names X x c)
      (su : ∀ (a : Addr) (ob : Obj) (cl : Value) (d : Option Addr) (pn : List (Addr × Obj)), Zc cl d ob → (∃ fv, ob.data = .fields fv) → PSs (X.suite a ((a, ob) :: pn)) (st₀ :: sts) (ts a cl d)) (r : HlOk X hs l) :
      HlOk X (.ExceptHandler (some (.Name x p1)) (some n) (st₀ :: sts) p2 :: hs) (.co c i ts :: l)
  | cu {x : Str} {c : Value} {ts : Suite} {st₀ : Stmt} {sts : List Stmt} {p1 p2 : Pos} {hs : List ExceptHandler} {l : List Hl} (hc : Names X x c)
      (su : ∀ (a : Addr) (ob : Obj) (cl : Value) (d : Option Addr) (pn : List (Addr × Obj)), Zc cl d ob → (∃ fv, ob.data = .fields fv) → PSs (X.suite a ((a, ob) :: pn)) (st₀ :: sts) (ts a cl d)) (r : HlOk X hs l) :
      HlOk X (.ExceptHandler (some (.Name x p1)) none (st₀ :: sts) p2 :: hs) (.cu c ts :: l)
section
variable {X : Cx} {body : List Stmt} {h₀ : ExceptHandler} {hs : List ExceptHandler} {l : List Hl} {pos : Pos} {tb : WX → TS} {Wz : WX}
theorem ps_try_hl (hst : X.stack = X.env :: X.outer) (hf : X.env.frame = some X.env.locals) (take : Takes X Wz)
    (hb : ∀ (W : WX) (pn : List (Addr × Obj)) (xe : Value → Shared → Prop), Takes (X.tr pn xe) W → PassesOwn (model X.prog X.w) X.A X.env xe → PSs (X.tr pn xe) body (tb W))
    (hh : HlOk X (h₀ :: hs) l) : PS X (.Try body (h₀ :: hs) [] [] pos) (fun D σ H => tb (wHl X.K Wz D l) D σ H) := by
  constructor
  intro pins s σ H D I goal
  have good := I.ok
  have frs_ : X.A.frames = some (X.env :: X.outer) := by rw [good.frames, hst]
  refine wpAny_Try_except ?_
  refine wpAny_mono ((hb (wHl X.K Wz D l) (X.pn ++ pins)
    (fun ex sa => wpAny (model X.prog X.w) X.A (noteFrame ex X.env)
      (fun _ sb => wpAny (model X.prog X.w) X.A (setFlight ex none)
        (fun _ sc => wpAny (model X.prog X.w) X.A (handleBy ex X.env (h₀ :: hs)) (SP X pins D) X.xe sc) X.xe sb) X.xe sa)
    (fun val s' caught => ?_) PassesOwn.looking).run [] s σ H D (I.toTry _) goal) (fun fl s1 done => ?_) (fun _ _ z => z)
  · obtain ⟨a, B, sI, pins', σ', H', cl, d, rfl, Jt, nb, up, sky, na, os, ag, wish⟩ := caught
    have J : Inv X pins σ' H' sI := Jt.ofTry good
    have sky1 : Sky B (X.env :: X.outer) a (Zc cl d) X.env.locals s'.heap := by
      rw [← hst]
      exact sky
    show wpAny (model X.prog X.w) X.A (noteFrame (.ref a) X.env) _ _ _
    refine Sky.land Zc.steady frs_ hf sky1 fun hA flA upA => ?_
    have JA : Inv X pins σ' H' { s' with heap := hA } := J.landed nb flA.1 (up.trans upA) os ag
    obtain ⟨obA, fvA, heA, hzA, hdA⟩ := flA.there
    have apart : ∀ {h : Heap} {ob : Obj} {fv : Array Value}, h.FunFrames B (X.env :: X.outer) → h.get? a = some ob → ob.data = .fields fv → a ∉ frs (X.env :: X.outer) := by
      intro h ob fv ff e dd hm
      obtain ⟨_, ob2, e2, hnf⟩ := ff.mem hm
      rw [e] at e2
      cases e2
      exact hnf _ dd
    have nfr := apart flA.2.2.1 heA hdA
    have nL : a ≠ X.env.locals := by
      intro z
      refine nfr (List.mem_filterMap.mpr ⟨X.env, List.mem_cons_self, ?_⟩)
      rw [hf, z]
    have nF : a ∉ X.fs := by
      intro hm
      obtain ⟨en, hen, q⟩ := List.mem_filterMap.mp hm
      exact nfr (List.mem_filterMap.mpr ⟨en, List.mem_cons_of_mem _ hen, q⟩)
    have SA := JA.suite heA hdA na nL nF
    have go : ∀ {hs' : List ExceptHandler} {l' : List Hl}, HlOk X hs' l' → wHl X.K Wz D l' cl d σ' H' →
        wpAny (model X.prog X.w) X.A (handleBy (.ref a) X.env hs') (SP X pins D) X.xe { s' with heap := hA } := by
      intro hs' l' hk
      induction hk with
      | stop => exact fun wz => wz.elim
      | no =>
        intro wz
        refine wpAny_handleBy_nil ?_
        obtain ⟨k1, k2, k3, ob, fv, T, oT, ts', he, hz, hd, hone, hr⟩ := id flA
        unfold PySem.passOn
        refine wpAny_bind (wpAny_field he hd hone ?_)
        have nn : ¬ ((Value.ref T == Value.none) = true) := by simp
        rw [if_neg nn]
        have out : wpAny (model X.prog X.w) X.A (setFlight (.ref a) X.env.frame)
            (fun _ sd => wpAny (model X.prog X.w) X.A (throw (.ref a) : Sem Flow) (SP X pins D) X.xe sd) X.xe { s' with heap := hA } := by
          rw [hf]
          refine HandSPX.setFlight_upZ flA fun hB hhB upB => ?_
          refine wpAny_throw (take _ _ ⟨a, B, sI, pins, σ', H', cl, d, rfl, J, nb, (up.trans upA).trans upB, .inr (.inr ?_), na, os, ag, wz⟩)
          rw [hst]
          exact hhB
        first
          | exact wpAny_bind (wpAny_pure (wpAny_bind out))
          | exact wpAny_bind out
      | @co x n c i ts st₀ sts p1 p2 hs2 l2 hN hi hn hc su more ih =>
        intro wz
        obtain ⟨hit, hit1, yes, no⟩ := wz
        refine wpAny_handleBy_cons (codeAny_handlers_test ?_) (by intro q; cases q)
        have lookT : PySem.W.Looks (model X.prog X.w) hA (typeOf (.ref a)) cl := fun A Q E sq kq q =>
          wpAny_typeOf_ref (kq _ _ heA) (by rw [hzA.1]; exact q)
        have lookM := PySem.W.exm_one (M := model X.prog X.w) JA.kIn lookT hit1
        have named : ∀ {Q : Value → Shared → Prop} {E : Value → Shared → Prop}, Q c { s' with heap := hA } →
            wpAny (model X.prog X.w) (X.A.mark (some (.ref a))) (eval (.Name x p1) X.env) Q E { s' with heap := hA } := by
          intro Q E q
          obtain ⟨hg, hdb, hm | ⟨hm, hv, hnn⟩⟩ := hc
          · exact ld_glob (X := X.suite a ((a, obA) :: (X.pn ++ pins))) SA hg hm q hdb
          · exact ld_blt (X := X.suite a ((a, obA) :: (X.pn ++ pins))) SA hg hm hv q hnn hdb
        refine named (lookM.here ?_)
        cases hit with
        | false =>
          show wpAny _ X.A (handleBy (.ref a) X.env hs2) _ _ _
          exact ih (no rfl)
        | true =>
          refine codeAny_handlers_suite_as ?_
          refine HandSPX.lands_againZ flA fun hB flB upB => ?_
          have JB : Inv X pins σ' H' { s' with heap := hB } := J.landed nb flB.1 ((up.trans upA).trans upB) os ag
          obtain ⟨obB, fvB, heB, hzB, hdB⟩ := flB.there
          have SB := JB.suite heB hdB na nL nF
          refine store_ok (X := X.suite a ((a, obB) :: (X.pn ++ pins))) (v := .ref a) SB hN hi (.inl hn) rfl (fun sC SC => ?_) (.inr hn)
          refine wpAny_mono ((su a obB cl d (X.pn ++ pins) hzB ⟨_, hdB⟩).run [] sC _ H' _ SC (yes rfl a na)) (fun fl sD spD => ?_) (fun _ _ z => z.elim)
          have fin : ∀ {σD : L2.St} {HD : Hp} {Q : Shared → Prop}, Inv (X.suite a ((a, obB) :: (X.pn ++ pins))) [] σD HD sD → (∀ sE, Inv X pins (σD.set i none) HD sE → Q sE) →
              wpAny (model X.prog X.w) X.A (do bindName X.env n .none; unbindBehindTheSuite X.env n p2) (fun _ sE => Q sE) X.xe sD := fun {σD HD Q} SD hq => gone_ok (SD.unsuite good) hN hi hn hq
          cases fl with
          | next =>
            obtain ⟨σD, HD, SD, qD⟩ := spD
            exact fin SD fun _ JE => ⟨_, _, JE, qD⟩
          | brk =>
            obtain ⟨σD, HD, SD, qD⟩ := spD
            exact fin SD fun _ JE => ⟨_, _, JE, qD⟩
          | cont =>
            obtain ⟨σD, HD, SD, qD⟩ := spD
            exact fin SD fun _ JE => ⟨_, _, JE, qD⟩
          | ret rv =>
            obtain ⟨vD, σD, HD, SD, rD, qD⟩ := spD
            exact fin SD fun _ JE => ⟨_, _, _, JE, rD, qD⟩
      | @cu x c ts st₀ sts p1 p2 hs2 l2 hc su more ih =>
        intro wz
        obtain ⟨hit, hit1, yes, no⟩ := wz
        refine wpAny_handleBy_cons (codeAny_handlers_test ?_) (by intro q; cases q)
        have lookT : PySem.W.Looks (model X.prog X.w) hA (typeOf (.ref a)) cl := fun A Q E sq kq q =>
          wpAny_typeOf_ref (kq _ _ heA) (by rw [hzA.1]; exact q)
        have lookM := PySem.W.exm_one (M := model X.prog X.w) JA.kIn lookT hit1
        have named : ∀ {Q : Value → Shared → Prop} {E : Value → Shared → Prop}, Q c { s' with heap := hA } →
            wpAny (model X.prog X.w) (X.A.mark (some (.ref a))) (eval (.Name x p1) X.env) Q E { s' with heap := hA } := by
          intro Q E q
          obtain ⟨hg, hdb, hm | ⟨hm, hv, hnn⟩⟩ := hc
          · exact ld_glob (X := X.suite a ((a, obA) :: (X.pn ++ pins))) SA hg hm q hdb
          · exact ld_blt (X := X.suite a ((a, obA) :: (X.pn ++ pins))) SA hg hm hv q hnn hdb
        refine named (lookM.here ?_)
        cases hit with
        | false =>
          show wpAny _ X.A (handleBy (.ref a) X.env hs2) _ _ _
          exact ih (no rfl)
        | true =>
          refine codeAny_handlers_suite ?_
          refine HandSPX.lands_againZ flA fun hB flB upB => ?_
          have JB : Inv X pins σ' H' { s' with heap := hB } := J.landed nb flB.1 ((up.trans upA).trans upB) os ag
          obtain ⟨obB, fvB, heB, hzB, hdB⟩ := flB.there
          have SB := JB.suite heB hdB na nL nF
          refine wpAny_mono ((su a obB cl d (X.pn ++ pins) hzB ⟨_, hdB⟩).run [] _ _ H' _ SB (yes rfl a na)) (fun fl sD spD => ?_) (fun _ _ z => z.elim)
          cases fl with
          | next =>
            obtain ⟨σD, HD, SD, qD⟩ := spD
            exact ⟨_, _, SD.unsuite good, qD⟩
          | brk =>
            obtain ⟨σD, HD, SD, qD⟩ := spD
            exact ⟨_, _, SD.unsuite good, qD⟩
          | cont =>
            obtain ⟨σD, HD, SD, qD⟩ := spD
            exact ⟨_, _, SD.unsuite good, qD⟩
          | ret rv =>
            obtain ⟨vD, σD, HD, SD, rD, qD⟩ := spD
            exact ⟨_, _, _, SD.unsuite good, rD, qD⟩
    exact go hh wish
  · cases fl with
    | next =>
      obtain ⟨σ', H', J', q⟩ := done
      exact wpAny_execs_nil ⟨σ', H', J'.ofTry good, q⟩
    | brk =>
      obtain ⟨σ', H', J', q⟩ := done
      exact ⟨σ', H', J'.ofTry good, q⟩
    | cont =>
      obtain ⟨σ', H', J', q⟩ := done
      exact ⟨σ', H', J'.ofTry good, q⟩
    | ret rv =>
      obtain ⟨v, σ', H', J', r, q⟩ := done
      exact ⟨v, σ', H', J'.ofTry good, r, q⟩
end
end Pu

/-! # Pu23 -/
namespace Pu
open PySem PySem.Spec PyProof.Rows L2 Tc
/-! # try: .. except C as e: return [tag, e.field], .. (e.f, e.g, e.h)] -/
inductive Sel where
  | one (k : Nat) | three (a b c : Nat) | nil
def selD (fs : List (Nat × D)) : Sel → Option D
  | .one k => fs.lookup k
  | .nil => some .non
  | .three a b c => match fs.lookup a, fs.lookup b, fs.lookup c with
    | some x, some y, some z => some (.tup [x, y, z])
    | _, _, _ => none
/-- a clause: what it catches, its own class, its word, what it tells -/
structure Hm where
  tab : List (Nat × Bool)
  own : Nat
  tag : Str
  sel : Sel
def pickH (i c : Nat) (fs : List (Nat × D)) (env : Env') : List Hm → Out
  | [] => .no
  | h :: r => match h.tab.lookup c with
    | some true => if c = h.own then match selD fs h.sel with
        | some d => .rt (.lst [.str h.tag, d]) (env.set i .no)
        | none => .no
      else .no
    | some false => pickH i c fs env r
    | none => .no
def sTry (m : Ms) (i : Nat) (hs : List Hm) : Ms := fun env => match m env with
  | .er c fs env1 => if i < env1.length then pickH i c fs env1 hs else .no
  | o => o
def sOne (C : Addr) (i : Nat) (tag f : Str) : Suite := fun a cl d => tRet (tLst (tCons (tC (.str tag)) (tCons (tXf a cl d C f (tVar i)) tNil)))
def sThree (C : Addr) (i : Nat) (tag f g h : Str) : Suite := fun a cl d => tRet (tLst (tCons (tC (.str tag)) (tCons (tTup (tCons (tXf a cl d C f (tVar i)) (tCons (tXf a cl d C g (tVar i)) (tCons (tXf a cl d C h (tVar i)) tNil)))) tNil)))
def sNon (tag : Str) : Suite := fun _ _ _ => tRet (tLst (tCons (tC (.str tag)) (tCons (tC .non) tNil)))
/-- what is known of a clause -/
structure TabF (L : Lay) (K : PySem.W.Frag) (C : Addr) (own : Nat) (tab : List (Nat × Bool)) : Prop where
  at_ : L.xcs[own]? = some C
  tab : ∀ q ∈ tab, ∃ C', L.xcs[q.1]? = some C' ∧ PySem.W.exmOne K (.ref C') (.ref C) = some q.2
inductive HmOk (L : Lay) (K : PySem.W.Frag) (i : Nat) : List Hl → List Hm → Prop
  | one {C : Addr} {own k : Nat} {tab : List (Nat × Bool)} {tag f : Str} {l : List Hl} {ms : List Hm} (t : TabF L K C own tab) (n : L.nms[k]? = some f) (r : HmOk L K i l ms) : HmOk L K i (.co (.ref C) i (sOne C i tag f) :: l) (⟨tab, own, tag, .one k⟩ :: ms)
  | three {C : Addr} {own k1 k2 k3 : Nat} {tab : List (Nat × Bool)} {tag f g h : Str} {l : List Hl} {ms : List Hm} (t : TabF L K C own tab) (n1 : L.nms[k1]? = some f) (n2 : L.nms[k2]? = some g) (n3 : L.nms[k3]? = some h) (r : HmOk L K i l ms) : HmOk L K i (.co (.ref C) i (sThree C i tag f g h) :: l) (⟨tab, own, tag, .three k1 k2 k3⟩ :: ms)
  | none {C : Addr} {own : Nat} {tab : List (Nat × Bool)} {tag : Str} {l : List Hl} {ms : List Hm} (t : TabF L K C own tab) (r : HmOk L K i l ms) : HmOk L K i (.cu (.ref C) (sNon tag) :: l) (⟨tab, own, tag, .nil⟩ :: ms)
  | stop : HmOk L K i [.stop] []
  | no : HmOk L K i [] []
section
variable {L : Lay} {E : L2.St → XK} {X : Cx} {K : PySem.W.Frag} {Z F H F1 H1 : Hp} {σ σ1 : L2.St} {env env1 : Env'} {N : Ends} {Wz : WX}
theorem pick_ok {i c : Nat} {C : Addr} {o : Option Addr} {vs : List (Str × V)} {fs : List (Nat × D)} (hC : L.xcs[c]? = some C) (g : Go L Z F H σ env F1 H1 σ1 env1) (hd : Det H1 o vs) (rf : RepF L F1 vs fs) (hi : i < σ1.length) :
    ∀ {l : List Hl} {ms : List Hm}, HmOk L K i l ms → PostS L Z E (rmD L Z) σ env F H N (pickH i c fs env1 ms) → wHl K Wz N l (.ref C) o σ1 H1 := by
  intro l ms ok
  have out : ∀ (a : Addr), H1 a = none → ∀ {tag : Str} {dx : D} {v : V} {F2 H2 : Hp}, Go L Z F1 H1 (σ1.set i (some (.ref a))) (env1.set i .no) F2 H2 (σ1.set i (some (.ref a))) (env1.set i .no) → Rep L F2 v dx → PostS L Z E (rmD L Z) σ env F H N (.rt (.lst [.str tag, dx]) (env1.set i .no)) → ∀ p, H2 p = none → N.rt (.ref p) (upd H2 p (.lst [.str tag, v])) := by
    intro a ha tag dx v F2 H2 g2 rv q p hp
    have g1 := Go.setNo (x := some (.ref a)) g.ok hi
    have g3 := Go.new (o := .lst [.str tag, v]) g2.ok hp
    refine q (.ref p) _ _ _ (((g.trans g1).trans g2).trans g3) (.lst upd_same (.cons (.str _) (.cons (rv.mono g3.ff) .nil)))
  have at_ : ∀ a, (σ1.set i (some (V.ref a)))[i]? = some (some (.ref a)) := fun a => List.getElem?_set_self hi
  induction ok with
  | stop => exact fun z => z.elim
  | no => exact fun z => z.elim
  | one t n r ih =>
    rename_i C' own k tab tag f l ms
    intro q
    unfold pickH at q
    dsimp only at q
    cases e : tab.lookup c with
    | none => rw [e] at q; exact q.elim
    | some b =>
      rw [e] at q
      obtain ⟨C2, hC2, hx⟩ := t.tab _ (mem_lookup e)
      rw [hC] at hC2
      cases hC2
      cases b with
      | false => exact ⟨false, hx, fun z => Bool.noConfusion z, fun _ => ih q⟩
      | true =>
        by_cases ec : c = own
        case neg => dsimp only at q; rw [if_neg ec] at q; exact q.elim
        dsimp only at q
        rw [if_pos ec] at q
        subst ec
        have hc := t.at_
        rw [hC] at hc
        cases hc
        refine ⟨true, hx, fun _ a ha => ?_, fun z => Bool.noConfusion z⟩
        unfold selD at q
        dsimp only at q
        cases es : fs.lookup k with
        | none => rw [es] at q; exact q.elim
        | some dx =>
          rw [es] at q
          obtain ⟨y, ey, ry⟩ := rf.lookup n es
          obtain ⟨d, rfl, hd⟩ | ⟨rfl, rfl⟩ := hd
          case inr => simp at ey
          refine ⟨_, at_ a, rfl, rfl, d, vs, y, rfl, hd, ey, (by show 2 ≤ sizeLine; decide), fun p hp => ?_⟩
          exact out a ha (Go.refl (Go.setNo g.ok hi).ok) ry q p hp
  | three t n1 n2 n3 r ih =>
    rename_i C' own k1 k2 k3 tab tag f g' h l ms
    intro q
    unfold pickH at q
    dsimp only at q
    cases e : tab.lookup c with
    | none => rw [e] at q; exact q.elim
    | some b =>
      rw [e] at q
      obtain ⟨C2, hC2, hx⟩ := t.tab _ (mem_lookup e)
      rw [hC] at hC2
      cases hC2
      cases b with
      | false => exact ⟨false, hx, fun z => Bool.noConfusion z, fun _ => ih q⟩
      | true =>
        by_cases ec : c = own
        case neg => dsimp only at q; rw [if_neg ec] at q; exact q.elim
        dsimp only at q
        rw [if_pos ec] at q
        subst ec
        have hc := t.at_
        rw [hC] at hc
        cases hc
        refine ⟨true, hx, fun _ a ha => ?_, fun z => Bool.noConfusion z⟩
        unfold selD at q
        dsimp only at q
        cases s1 : fs.lookup k1 with
        | none => rw [s1] at q; exact q.elim
        | some d1 =>
        cases s2 : fs.lookup k2 with
        | none => rw [s1, s2] at q; exact q.elim
        | some d2 =>
        cases s3 : fs.lookup k3 with
        | none => rw [s1, s2, s3] at q; exact q.elim
        | some d3 =>
          rw [s1, s2, s3] at q
          obtain ⟨y1, ey1, r1⟩ := rf.lookup n1 s1
          obtain ⟨y2, ey2, r2⟩ := rf.lookup n2 s2
          obtain ⟨y3, ey3, r3⟩ := rf.lookup n3 s3
          obtain ⟨d, rfl, hd⟩ | ⟨rfl, rfl⟩ := hd
          case inr => simp at ey1
          refine ⟨_, at_ a, rfl, rfl, d, vs, y1, rfl, hd, ey1, _, at_ a, rfl, rfl, d, vs, y2, rfl, hd, ey2, _, at_ a, rfl, rfl, d, vs, y3, rfl, hd, ey3, (by show 3 ≤ sizeLine; decide), fun t ht => ⟨(by show 2 ≤ sizeLine; decide), fun p hp => ?_⟩⟩
          have g2 := Go.new (o := .tup [y1, y2, y3]) (Go.setNo (x := some (.ref a)) g.ok hi).ok ht
          exact out a ha g2 (.tup upd_same (.cons (r1.mono g2.ff) (.cons (r2.mono g2.ff) (.cons (r3.mono g2.ff) .nil)))) q p hp
  | none t r ih =>
    rename_i C' own tab tag l ms
    intro q
    unfold pickH at q
    dsimp only at q
    cases e : tab.lookup c with
    | none => rw [e] at q; exact q.elim
    | some b =>
      rw [e] at q
      obtain ⟨C2, hC2, hx⟩ := t.tab _ (mem_lookup e)
      rw [hC] at hC2
      cases hC2
      cases b with
      | false => exact ⟨false, hx, fun z => Bool.noConfusion z, fun _ => ih q⟩
      | true =>
        by_cases ec : c = own
        case neg => dsimp only at q; rw [if_neg ec] at q; exact q.elim
        dsimp only at q
        rw [if_pos ec] at q
        refine ⟨true, hx, fun _ a ha => ⟨(by show 2 ≤ sizeLine; decide), fun p hp => ?_⟩, fun z => Bool.noConfusion z⟩
        have eq : σ1.set i σ1[i] = σ1 := List.set_getElem_self hi
        have g1 := Go.setNo (x := σ1[i]) g.ok hi
        rw [eq] at g1
        have g3 := Go.new (o := .lst [.str tag, .non]) g1.ok hp
        exact q (.ref p) _ _ _ ((g.trans g1).trans g3) (.lst upd_same (.cons (.str _) (.cons .non .nil)))
end
/-! ## the statement -/
def tCanS (L : Lay) (E : L2.St → XK) (rm : RM) (m : Ms) : TS := fun N σ H => ∃ Z env F, Ok L Z F H σ env ∧ PostS L Z E (rm Z) σ env F H N (m env)
section
variable {L : Lay} {E : L2.St → XK} {rm : RM} {X : Cx} {body : List Stmt} {pos : Pos} {m : Ms}
theorem ImB.can (h : ImB L E rm X body m) : PSs X body (tCanS L E rm m) := by
  obtain ⟨t, p, i⟩ := h
  exact ⟨fun pins s σ H D I ⟨Z, env, F, k, q⟩ => p.run pins s σ H D I (i Z σ env F H D k q)⟩
theorem imS_try {h0 : ExceptHandler} {hs : List ExceptHandler} {l : List Hl} {ms : List Hm} {i : Nat} (hst : X.stack = X.env :: X.outer) (hf : X.env.frame = some X.env.locals)
    (hb : ∀ (W : WX) (pn : List (Addr × Obj)) (xe : Value → Shared → Prop), Takes (X.tr pn xe) W → PassesOwn (model X.prog X.w) X.A X.env xe → ImB L (WE W) (rmD L) (X.tr pn xe) body m) (hh : HlOk X (h0 :: hs) l) (hk : HmOk L X.K i l ms) :
    ImS L E (rmD L) X (.Try body (h0 :: hs) [] [] pos) (sTry m i ms) := by
  refine ⟨_, ps_try_hl (tb := fun W => tCanS L (WE W) (rmD L) m) hst hf takes0 (fun W pn xe tk po => (hb W pn xe tk po).can) hh, fun Z σ env F H N k h => ?_⟩
  refine ⟨Z, env, F, k, ?_⟩
  unfold sTry at h
  cases q : m env with
  | nx e => rw [q] at h; exact h
  | bk e => rw [q] at h; exact h
  | ct e => rw [q] at h; exact h
  | rt d e => rw [q] at h; exact h
  | no => rw [q] at h; exact h
  | er c fs e =>
    rw [q] at h
    dsimp only at h
    intro C a σ1 F1 H1 vs hC g hd rf
    by_cases hl : i < e.length
    case neg => rw [if_neg hl] at h; exact h.elim
    rw [if_pos hl] at h
    exact pick_ok (E := E) hC g hd rf (by rw [g.ok.len]; exact hl) hk h
end
end Pu

/-! # Pu24 -/
namespace Pu
open PySem PySem.Spec PyProof.Rows L2 Tc
/-! # defs that ask for repr: the caller knows the guards -/
section
variable {P : Program} {w : World} {K : PySem.W.Frag} {mg : Str → Option Value} {base : Heap} {L : Lay}
theorem mean_core {X : Cx} {N ps : List Str} {ms : List Bool} {o : Bool} {m : Ms} {body : List Stmt} {E : XK} {vs : List V} {H : Hp} {Q : VK} (hm : ms.length = ps.length) (hn : ps.length ≤ N.length) (hb : ImB L (fun _ => E) (rmB L o) X body m) (ho : o = true → ∀ ds e, m (startE ms N.length ds) ≠ .nx e)
    (h : spF L ms o (runF ms N.length m) vs H Q E) : ∃ t, PSs X body t ∧ t { nx := fun _ H' => Q .non H', rt := Q } (start N vs) H := by
  obtain ⟨t, p, i⟩ := hb
  obtain ⟨ds, F, sm, ar, nd, q⟩ := h
  have k0 := ok_start (N := N) sm ar nd (by omega)
  refine ⟨t, p, i (cutL L H) (start N vs) (startE ms N.length ds) F H _ k0 ?_⟩
  have gof : ∀ {F' H' : Hp} {σ' : L2.St} {env' : Env'} {ios : List D}, Go L (cutL L H) F H (start N vs) (startE ms N.length ds) F' H' σ' env' → iosE ms env' = some ios → GoF L (ioA ms vs) F H F' H' ios := fun {F' H' σ' env' ios} g e => by
    refine ⟨g.ff, g.ok.fh, g.ok.tb, g.ok.nt, fun a o' e' t n => g.kp a o' e' t fun i m => n (mu_start ar i a m), fun a o' e' t n => g.fr a o' e' t fun i m => n (mu_start ar i a m), g.dm, ios_end ar e fun i d p h1 h2 => ?_⟩
    obtain ⟨e1, d0, e2⟩ := g.io i d h1
    obtain ⟨q, eq, nf, ow, _⟩ := g.ok.mut (.inr h1)
    have e3 : (start N vs)[i]? = some (some (.ref p)) := by
      have hi : i < vs.length := (List.getElem?_eq_some_iff.mp h2).1
      unfold L2.start
      rw [List.getElem?_append_left (by simpa using hi), List.getElem?_map, h2]
      rfl
    rw [e1, e3] at eq
    cases eq
    exact ⟨nf, ow⟩
  unfold runF at q
  cases hm2 : m (startE ms N.length ds) with
  | nx e =>
    rw [hm2] at q
    simp only at q
    cases hi : iosE ms e with
    | none => rw [hi] at q; exact q.elim
    | some ios =>
      rw [hi] at q
      intro σ' F' H' g
      refine q .non F' H' (gof g hi) ?_
      cases o with
      | false => exact Rep.non
      | true => exact absurd hm2 (ho rfl ds e)
  | rt d e =>
    rw [hm2] at q
    simp only at q
    cases hi : iosE ms e with
    | none => rw [hi] at q; exact q.elim
    | some ios =>
      rw [hi] at q
      intro v σ' F' H' g r
      refine q v F' H' (gof g hi) ?_
      cases o with
      | false => exact r
      | true =>
        obtain ⟨p, rfl, a, b, c, _⟩ := r
        exact ⟨p, rfl, a, b, c⟩
  | er c fs e =>
    rw [hm2] at q
    simp only at q
    cases hi : iosE ms e with
    | none => rw [hi] at q; exact q.elim
    | some ios =>
      rw [hi] at q
      intro C a σ' F' H' us e1 g e2 e3
      exact q C a F' H' us e1 (gof g hi) e2 e3
  | bk e => rw [hm2] at q; exact q.elim
  | ct e => rw [hm2] at q; exact q.elim
  | no => rw [hm2] at q; exact q.elim
theorem fn_meanG {x qual : Str} {st : Stmt} {f : Addr} {fd : FuncData} {N ps : List Str} {k : Nat} {ms : List Bool} {o : Bool} {m : Ms} (Fn : Fun K x qual st f fd) (S : FnScope N ps (defScope st)) (hm : ms.length = ps.length) (hn : ps.length ≤ N.length)
    (hbody : ∀ (cdv : Value) (A : Around) (outer : List Env) (s : Shared) (H : Hp) (E : XK), A.guards = some [] → Room k (A.deeper (envOfC qual (defScope st) s.heap.objs.size f cdv)) →
      ImB L (fun _ => E) (rmB L o) (cxOf (L2.CX P w) P w K mg base N qual (defScope st) f cdv A outer s H E) (defBody st) m) (ho : o = true → ∀ ds e, m (startE ms N.length ds) ≠ .nx e) :
    FnG P w K mg base (L2.CX P w) (k + 1) f fd ps (spF L ms o (runF ms N.length m)) :=
  okG Fn S (fun vs H Q E ⟨ds, F, s, r, _, _⟩ => by rw [r.length.1, hm]) fun cdv A outer s H vs Q E hg hr h => mean_core hm hn (hbody cdv A outer s H E hg hr) ho h
end
/-! # repr of data -/
mutual
theorem Rep.dq {L : Lay} {F : Hp} : ∀ (d : D) (v : V) (p : PyData), Rep L F v d → toPy d = some p → Dq L.K F v p
  | .non, _, _, r, h => by cases r; cases h; exact .no
  | .bl b, _, _, r, h => by cases r; cases h; exact .bo b
  | .int i, _, _, r, h => by cases r; cases h; exact .it i
  | .str s, _, _, r, h => by cases r; cases h; exact .tx s
  | .lst ds, v, p, r, h => by
    cases r with
    | lst e r =>
      rw [toPy] at h
      cases q : toPyA ds with
      | none => rw [q] at h; cases h
      | some ps => rw [q] at h; cases h; exact .li (SqL.of e) (RepA.dq ds _ _ r q)
  | .tup ds, v, p, r, h => by
    cases r with
    | tup e r =>
      rw [toPy] at h
      cases q : toPyA ds with
      | none => rw [q] at h; cases h
      | some ps => rw [q] at h; cases h; exact .tu (SqT.of e) (RepA.dq ds _ _ r q)
  | .ctp ds, v, p, r, h => by
    cases r with
    | ctp e r =>
      rw [toPy] at h
      cases q : toPyA ds with
      | none => rw [q] at h; cases h
      | some ps => rw [q] at h; cases h; exact .tu e (RepA.dq ds _ _ r q)
  | .dct _, _, _, _, h => nomatch h
  | .obj _ _, _, _, _, h => nomatch h
  | .scr _, _, _, _, h => nomatch h
  | .tl _ ds, v, p, r, h => by
    cases r with
    | tl e r =>
      rw [toPy] at h
      cases q : toPyA ds with
      | none => rw [q] at h; cases h
      | some ps => rw [q] at h; cases h; exact .li (SqL.of e) (RepA.dq ds _ _ r q)
  | .pt _, _, _, _, h => nomatch h
  | .exv _, _, _, _, h => nomatch h
theorem RepA.dq {L : Lay} {F : Hp} : ∀ (d : List D) (v : List V) (p : List PyData), RepA L F v d → toPyA d = some p → DqA L.K F v p
  | [], _, _, r, h => by cases r; cases h; exact .no
  | d :: ds, _, _, r, h => by
    cases r with
    | cons r rs =>
      rw [toPyA] at h
      cases q : toPy d with
      | none => rw [q] at h; cases h
      | some x =>
        cases q2 : toPyA ds with
        | none => rw [q, q2] at h; cases h
        | some xs => rw [q, q2] at h; cases h; exact .co (Rep.dq d _ _ r q) (RepA.dq ds _ _ rs q2)
end
def isRef : D → Bool
  | .lst _ => true
  | .tup _ => true
  | .ctp _ => true
  | .tl _ _ => true
  | _ => false
section
variable {L : Lay} {E : L2.St → XK} {X : Cx} {o e : Expr} {es : List Expr} {mx : Mx} {me : Me} {p apos cpos pos : Pos}
/-! # xs.index(y), flat things -/
def idxV (y : V) : List V → Option Nat
  | [] => none
  | z :: zs => if eqV z y = true then some 0 else (idxV y zs).map (· + 1)
def gIdx (l d : D) : Option D := match l, flV d with
  | .lst ds, some v => match flVs ds with
    | some vs => (idxV v vs).map fun j => .int (j : Nat)
    | none => none
  | _, _ => none
def mIdx (mo : Mx) (ma : Me) : Me := fun env => (mo env).bind fun x env1 => match deref env1 x with
  | some (.lst _) => (ma env1).bind fun d env2 => match deref env2 x with
    | some l => liftO (gIdx l d) env2
    | none => .no
  | _ => .no
end
end Pu

/-! # Pu25 -/
namespace Pu
open PySem PySem.Spec PyProof.Rows L2 Tc
/-! # o.m(e, .., k = v, ..) -/
/-- where a parameter's value comes from -/
inductive Src where
  | pos (i : Nat) | kw (i : Nat) | dflt
def gS {α : Type} (nn : α) (sh : List Src) (us ws : List α) : List α := sh.map fun
  | .pos i => us.getD i nn
  | .kw i => ws.getD i nn
  | .dflt => nn
theorem RelXs.len {L : Lay} {F : Hp} {σ : L2.St} {vs : List V} {xs : List XD} (r : RelXs L F σ vs xs) : vs.length = xs.length := by
  induction r with
  | nil => rfl
  | cons h t ih => simp [ih]
section
variable {X : Cx} {CX : CXT} {k n : Nat} {f C : Addr} {fd : FuncData} {ps ks : List Str} {sp : Sp} {x m : Str} {p pos apos : Pos} {e o a b : Expr} {es : List Expr} {kws : List Keyword} {ta tb : TE} {t tk : TA} {g : List Value → List Value → List Value} {gV : List V → List V → List V}
end
/-! ## by meaning -/
def mMethK (c n j : Nat) (φ : List D → Rz) (sh : List Src) (mo : Mx) (ma mk : Mxs) : Me := fun env => (mo env).bind fun y env1 => if isObj' c (deref env1 y) = true then
  (ma env1).bind fun xs env2 => (mk env2).bind fun zs env3 => if xs.length = n ∧ zs.length = j then callZ φ (List.replicate sh.length false) (gS (.inl .non) sh (y :: xs) zs) env3 else .no else .no
section
variable {L : Lay} {E : L2.St → XK} {X : Cx} {k n : Nat} {f C : Addr} {fd : FuncData} {ps ks : List Str} {m : Str} {pos apos kpos : Pos} {e o : Expr} {es : List Expr} {kws : List Keyword} {ma mk : Mxs} {mx : Mx} {φ : List D → Rz} {sh : List Src} {me : Me} {nm : Option Str}
end
end Pu
namespace Pu
end Pu
namespace Pu
open PySem PySem.Spec PyProof.Rows L2 Tc
/-- texts that are told of: != of what repr gives -/
def gNeS : D → D → Option D
  | .str a, .str b => some (.bl (!decide (a = b)))
  | _, _ => none
theorem od_neS {L : Lay} {X : Cx} : OpD L X (compareOp .NotEq) gNeS := by
  refine ⟨_, op_ne, fun F H x y dx dy d Q s tx ty e w => ?_⟩
  unfold gNeS at e
  split at e
  · rename_i a b
    obtain rfl : x = .str a := tx
    obtain rfl : y = .str b := ty
    have e := Option.some.inj e
    subst e
    refine ⟨rfl, ?_⟩
    have q : decide (V.str a = V.str b) = decide (a = b) := by
      by_cases h : a = b
      · subst h
        simp
      · simp [h]
    rw [q]
    exact w _ F H (.here (.bl _))
  · cases e
end Pu

/-! # Pu26 -/
namespace Tc
open PySem PySem.Spec PyProof.Rows L2 PySem.Calls
/-! # o(e, ..), o of an own class -/
section
variable {M : Model} {A : Around} {E : Value → Shared → Prop} {s : Shared} {env : Env} {pos : Pos} {o C : Addr} {Q : Value → Shared → Prop}
end
section
variable {X : Cx} {CX : CXT} {k : Nat} {f C : Addr} {fd : FuncData} {ps : List Str} {sp : Sp} {fe e : Expr} {es : List Expr} {pos : Pos} {tf : TE} {t : TA}
end
end Tc
namespace Pu
open PySem PySem.Spec PyProof.Rows L2 Tc
section
variable {L : Lay} {E : L2.St → XK} {X : Cx} {k : Nat} {f C : Addr} {fd : FuncData} {ps : List Str} {pos : Pos} {e o : Expr} {es : List Expr} {ma : Mxs} {mx : Mx} {ms : List Bool} {φ : List D → Rz} {ow : Bool}
end
end Pu

/-! # Pu27 -/
namespace Tc
open PySem PySem.Spec PyProof.Rows L2
/-! # o + e, o - e by the class's own method, without a reflected one -/
section
variable {X : Cx} {CX : CXT} {k : Nat} {f C : Addr} {fd : FuncData} {ps : List Str} {sp : Sp} {pos : Pos} {a b : Expr} {ta tb : TE} {op : Operator}
end
end Tc
namespace Pu
open PySem PySem.Spec PyProof.Rows L2 Tc
section
variable {L : Lay} {E : L2.St → XK} {X : Cx} {k : Nat} {f C : Addr} {fd : FuncData} {ps : List Str} {pos : Pos} {a b : Expr} {ma mb : Mx} {ms : List Bool} {φ : List D → Rz} {op : Operator}
end
end Pu

/-! # Pu28 -/
namespace Pu
open PySem PySem.Spec PyProof.Rows L2 Tc
/-! # list(range(a, b)) -/
section
variable {L : Lay} {E : L2.St → XK} {X : Cx} {a b : Expr} {ma mb : Me} {p p1 pos pos1 : Pos}
end
end Pu

/-! # Pu29 -/
namespace Pu
open PySem PySem.Spec PyProof.Rows L2 Tc
/-! # xs != ys, lists with flat things and objects of own classes, alike by ==: False -/
abbrev Fam := List (Nat × (List D → Rz))
def isTr : Rz → Bool
  | .ok (.bl true) [] => true
  | _ => false
theorem isTr_eq {r : Rz} (h : isTr r = true) : r = .ok (.bl true) [] := by
  unfold isTr at h
  split at h
  · rfl
  · cases h
def prO (fam : Fam) : D → D → Bool
  | .obj c fs, .obj c' gs => c == c' && (match fam.lookup c with
    | some φ => isTr (φ [.obj c fs, .obj c' gs])
    | none => false)
  | d, e => match flV d, flV e with
    | some x, some y => eqV x y
    | _, _ => false
def prsO (fam : Fam) : List D → List D → Bool
  | [], [] => true
  | d :: ds, e :: es => prO fam d e && prsO fam ds es
  | _, _ => false
/-- .. or a list or a tuple of such -/
def prO1 (fam : Fam) : D → D → Bool
  | .lst ds, .lst es => prsO fam ds es
  | .tup ds, .tup es => prsO fam ds es
  | d, e => prO fam d e
def RF (L : Lay) (φ : List D → Rz) (a b : Addr) (H : Hp) : Prop := ∃ F d e, Same F H ∧ Rep L F (.ref a) d ∧ Rep L F (.ref b) e ∧ φ [d, e] = .ok (.bl true) []
section
variable {L : Lay} {X : Cx} {n k : Nat} {f C : Addr} {fd : FuncData} {ps : List Str} {φ : List D → Rz}
theorem mon_RF {C : Addr} : Mon (DIns C (RF L φ)) := mon_ins fun a b H H' e r => by
  obtain ⟨F, d, d', s, r1, r2, q⟩ := r
  exact ⟨F, d, d', fun x o h => e x o (s x o h), r1, r2, q⟩
/-- what is known of the classes that may stand in the lists -/
inductive FamF (L : Lay) (X : Cx) (n : Nat) : Fam → Prop
  | nil : FamF L X n []
  | cons {c : Nat} {C : Addr} {φ : List D → Rz} {fam : Fam} (hc : L.cls[c]? = some C) (h : EqG X n (DIns C (RF L φ))) (r : FamF L X n fam) : FamF L X n ((c, φ) :: fam)
def famE (L : Lay) : Fam → Eqv
  | [] => DFlat
  | (c, φ) :: fam => fun x y H => (∃ C, L.cls[c]? = some C ∧ DIns C (RF L φ) x y H) ∨ famE L fam x y H
theorem mon_fam : ∀ fam : Fam, Mon (famE L fam)
  | [] => mon_flat
  | (c, φ) :: fam => fun x y H H' e d => d.elim (fun ⟨C, h, q⟩ => .inl ⟨C, h, mon_RF x y H H' e q⟩) fun q => .inr (mon_fam fam x y H H' e q)
theorem eqG_fam {fam : Fam} (h : FamF L X n fam) : EqG X n (famE L fam) := by
  induction h with
  | nil => exact EqG.mono eqG_flat (Nat.zero_le _)
  | cons hc h r ih =>
    refine EqG.imp (EqG.or h ih) fun x y H d => ?_
    rcases d with ⟨C', hc', q⟩ | q
    · rw [hc] at hc'
      cases hc'
      exact .inl q
    · exact .inr q
theorem fam_flat {fam : Fam} {x y : V} {H : Hp} (h : DFlat x y H) : famE L fam x y H := by
  induction fam with
  | nil => exact h
  | cons p fam ih => exact .inr ih
theorem fam_obj {fam : Fam} {c : Nat} {C : Addr} {x y : V} {H : Hp} (hc : L.cls[c]? = some C) (hl : fam.lookup c = some φ) (h : DIns C (RF L φ) x y H) : famE L fam x y H := by
  induction fam with
  | nil => cases hl
  | cons p fam ih =>
    obtain ⟨c', ψ⟩ := p
    rw [List.lookup_cons] at hl
    by_cases e : c = c'
    · subst e
      simp at hl
      subst hl
      exact .inl ⟨C, hc, h⟩
    · have : (c == c') = false := by simp [e]
      rw [this] at hl
      exact .inr (ih hl)
theorem pr_ok {fam : Fam} {F H : Hp} (s : Same F H) {x y : V} {d e : D} (rx : Rep L F x d) (ry : Rep L F y e) (h : prO fam d e = true) : famE L fam x y H := by
  unfold prO at h
  split at h
  · rename_i c fs c' gs
    rw [Bool.and_eq_true] at h
    obtain ⟨h1, h2⟩ := h
    have ec : c = c' := by simpa using h1
    subst ec
    split at h2
    · rename_i ψ q
      have q2 := isTr_eq h2
      obtain ⟨a, C, dx, us, rfl, e1, e2, e3⟩ := rx.top s
      obtain ⟨a', C', dx', us', rfl, e1', e2', e3'⟩ := ry.top s
      rw [e1] at e1'
      cases e1'
      exact fam_obj e1 q ⟨a, a', dx, dx', us, us', rfl, rfl, e2, e2', F, _, _, s, rx, ry, q2⟩
    · cases h2
  · split at h
    · rename_i v w e1 e2
      obtain ⟨rfl, f1⟩ := flV_top (rx.top s) e1
      obtain ⟨rfl, f2⟩ := flV_top (ry.top s) e2
      exact fam_flat ⟨f1, f2, h⟩
    · cases h
theorem prs_ok {fam : Fam} {F H : Hp} (s : Same F H) : ∀ {xs ys : List V} {ds es : List D}, RepA L F xs ds → RepA L F ys es → prsO fam ds es = true → Prs (famE L fam) xs ys H
  | _, _, _, _, .nil, .nil, _ => Prs.nil
  | _, _, _, _, .nil, .cons _ _, h => by cases h
  | _, _, _, _, .cons _ _, .nil, h => by cases h
  | _, _, _, _, .cons h1 r1, .cons h2 r2, h => by
    rw [prsO, Bool.and_eq_true] at h
    exact Prs.cons (pr_ok s h1 h2 h.1) (prs_ok s r1 r2 h.2)
def famE1 (L : Lay) (K : PySem.W.Frag) (fam : Fam) : Eqv := fun x y H => famE L fam x y H ∨ (DList (famE L fam) x y H ∨ DTup K (famE L fam) x y H)
theorem mon_fam1 {K : PySem.W.Frag} (fam : Fam) : Mon (famE1 L K fam) := Mon.or (mon_fam fam) (Mon.or (mon_list (mon_fam fam)) (mon_tup (mon_fam fam)))
theorem eqG_fam1 {fam : Fam} (h : FamF L X n fam) : EqG X (n + 1) (famE1 L X.K fam) := EqG.or (EqG.mono (eqG_fam h) (Nat.le_succ _)) (EqG.or (eqG_list (mon_fam fam) (eqG_fam h)) (eqG_tup (mon_fam fam) (eqG_fam h)))
theorem pr1_ok {K : PySem.W.Frag} {fam : Fam} {F H : Hp} (s : Same F H) {x y : V} {d e : D} (rx : Rep L F x d) (ry : Rep L F y e) (h : prO1 fam d e = true) : famE1 L K fam x y H := by
  unfold prO1 at h
  split at h
  · obtain ⟨a, vs, rfl, e1, r1⟩ := rx.top s
    obtain ⟨b, ws, rfl, e2, r2⟩ := ry.top s
    exact .inr (.inl ⟨a, b, vs, ws, rfl, rfl, e1, e2, prs_ok s r1 r2 h⟩)
  · obtain ⟨a, vs, rfl, e1, r1⟩ := rx.top s
    obtain ⟨b, ws, rfl, e2, r2⟩ := ry.top s
    exact .inr (.inr ⟨a, b, vs, ws, rfl, rfl, SqT.of (s _ _ e1), SqT.of (s _ _ e2), prs_ok s r1 r2 h⟩)
  · exact .inl (pr_ok s rx ry h)
end
section
variable {L : Lay} {E : L2.St → XK} {X : Cx} {n : Nat} {a b : Expr} {ma mb : Mx} {pos : Pos} {fam : Fam}
end
end Pu

/-! # Pu30 -/
namespace Pu
open PySem PySem.Spec PyProof.Rows L2 Tc
/-! # own comparisons as tests -/
section
variable {L : Lay} {E : L2.St → XK} {X : Cx} {C : Addr} {a b : Expr} {ma mb : Mx} {ms : List Bool} {φ : List D → Rz} {pos : Pos} {n : Nat} {fam : Fam}
end
end Pu

/-! # Pu31 -/
namespace Tc
open PySem PySem.Spec PyProof.Rows L2 PySem.SeqAt PySem.MeetsSeq PySem.MeetsSeq2 PySem.MeetsSeq3
/-! # xs.extend(t), t a tuple -/
section
variable {X : Cx}
end
end Tc
namespace Pu
open PySem PySem.Spec PyProof.Rows L2 Tc
section
variable {L : Lay} {E : L2.St → XK} {rm : RM} {X : Cx} {e : Expr} {x : Str} {p0 apos cpos spos : Pos}
end
end Pu

/-! # Pu32 -/
namespace PySem.W
open PySem PySem.Spec PyProof.Rows
section
variable {prog : Program} {w : World} {A : Around} {E : Value → Shared → Prop} {s : Shared} {K : Frag} {x C D L f f2 : Addr} {h₀ : Heap} {m : Str → Option Value} {ox : Obj} {od : Option Obj}
end
end PySem.W
namespace Tc
open PySem PySem.Spec PyProof.Rows L2
/-- what another class has -/
structure OpR (K : PySem.W.Frag) (C : Addr) (op : Operator) (D : Addr) : Prop where
  sf : PySem.W.selfFirst K D = true
  at_ : ∃ f : Addr, PySem.W.findIn K (.ref D) (PySem.dunder op.info.2) = some (some (.ref f))
  rat : ∃ rc : Option Value, PySem.W.findIn K (.ref D) (dunderR op.info.2) = some rc ∧ (rc = none ∨ ∃ g : Addr, rc = some (.ref g))
  sub : PySem.W.subIn K (.ref D) (.ref C) = some false
  ne : (Value.ref C == Value.ref D) = false
section
variable {X : Cx} {CX : CXT} {k : Nat} {f C : Addr} {fd : FuncData} {ps : List Str} {sp : Sp} {pos : Pos} {a b : Expr} {ta tb : TE} {op : Operator} {R : Addr → Prop}
end
end Tc
namespace Pu
open PySem PySem.Spec PyProof.Rows L2 Tc
section
variable {L : Lay} {E : L2.St → XK} {X : Cx} {k : Nat} {f C : Addr} {fd : FuncData} {ps : List Str} {pos : Pos} {a b : Expr} {ma mb : Mx} {ms : List Bool} {φ : List D → Rz} {op : Operator} {R : Addr → Prop}
end
end Pu

/-! # Pu33 -/
namespace Pu
open PySem PySem.Spec PyProof.Rows L2 Tc
section
variable {env : Env'} {i c k : Nat} {d e r o : D} {ds l : List D} {me me2 : Me} {mx my : Mx} {mxs : Mxs} {ma : Ma} {t u : Mt} {φ : List D → Rz} {b : Bool} {ts : List String} {cs : List Nat}
end
end Pu

/-! # Pu34 -/
namespace Pu
open PySem PySem.Spec PyProof.Rows L2 Tc
section
variable {L : Lay} {X : Cx} {pos : Pos}
end
end Pu

/-! # Pu35 -/
namespace Pu
open PySem PySem.Spec PyProof.Rows L2 Tc
section
variable {L : Lay} {E : L2.St → XK} {X : Cx} {e : Expr} {m : Mx} {kk : Nat} {p1 p2 p3 pos : Pos}
end
end Pu

/-! # Pu36 -/
namespace Pu
open PySem PySem.Spec PyProof.Rows L2 Tc
section
variable {env env1 env2 env3 : Env'} {i c k : Nat} {d e f r o : D} {ds l acc : List D} {me me2 me3 : Me} {mx my : Mx} {mxs : Mxs} {ma : Ma} {t u : Mt} {φ : List D → Rz} {b : Bool} {lo hi : Option Int} {ml mh : Mo}
/-- each turn of a loop leaves all but one slot as it is -/
theorem lp_all {tg : Mg} {body : Ms} (I : Env' → Prop) : ∀ (ds : List D) (env : Env'), I env → (∀ d ∈ ds, ∀ env, I env → ∃ e1 e2, tg d env = some e1 ∧ body e1 = .nx e2 ∧ I e2) → ∃ e, forL tg body ds env = .nx e ∧ I e
  | [], env, h, _ => ⟨env, rfl, h⟩
  | d :: ds, env, h, H => by
    obtain ⟨e1, e2, a, b, c⟩ := H d List.mem_cons_self env h
    obtain ⟨e, q, w⟩ := lp_all I ds e2 c fun x m => H x (List.mem_cons_of_mem _ m)
    refine ⟨e, ?_, w⟩
    rw [forL, a]
    dsimp only
    rw [b]
    exact q
end
end Pu

/-! # Pu37 -/
namespace Pu
/-! # what changes an own slot on its way -/
section
variable {env env1 env2 : Env'} {me me2 : Me} {mx my : Mx} {x y : XD} {d e f r d' : D} {φ : List D → Rz} {i : Nat}
end
end Pu

/-! # Pu38 -/
namespace Pu
open PySem PySem.Spec PyProof.Rows L2 Tc
/-! # dicts -/
def valD (l : List (Key × D)) (k : Key) : Option D := (l.find? fun kv => decide (kv.1 = k)).map (·.2)
def putD (l : List (Key × D)) (k : Key) (d : D) : List (Key × D) :=
  if (l.any fun kv => decide (kv.1 = k)) = true then l.map (fun kv => if kv.1 = k then (kv.1, d) else kv) else l ++ [(k, d)]
section
variable {L : Lay} {F H : Hp}
theorem RepD.length : ∀ {vs : List (Key × V)} {ds : List (Key × D)}, RepD L F vs ds → vs.length = ds.length
  | _, _, .nil => rfl
  | _, _, .cons _ r => by simp [r.length]
theorem RepD.any (k : Key) : ∀ {vs : List (Key × V)} {ds : List (Key × D)}, RepD L F vs ds → (vs.any fun kv => decide (kv.1 = k)) = (ds.any fun kv => decide (kv.1 = k))
  | _, _, .nil => rfl
  | _, _, .cons _ r => by simp [r.any k]
theorem RepD.val (k : Key) : ∀ {vs : List (Key × V)} {ds : List (Key × D)}, RepD L F vs ds → (valV vs k = none ∧ valD ds k = none) ∨ ∃ v d, valV vs k = some v ∧ valD ds k = some d ∧ Rep L F v d
  | _, _, .nil => .inl ⟨rfl, rfl⟩
  | _, _, .cons (k := j) (v := v) (d := d) h r => by
    by_cases e : j = k
    · exact .inr ⟨v, d, by simp [valV, List.find?_cons, e], by simp [valD, List.find?_cons, e], h⟩
    · have a : ∀ (x : V) (l : List (Key × V)), valV ((j, x) :: l) k = valV l k := fun x l => by simp [valV, List.find?_cons, e]
      have b : ∀ (x : D) (l : List (Key × D)), valD ((j, x) :: l) k = valD l k := fun x l => by simp [valD, List.find?_cons, e]
      rw [a, b]
      exact r.val k
theorem RepD.map (k : Key) {v : V} {d : D} (h : Rep L F v d) : ∀ {vs : List (Key × V)} {ds : List (Key × D)}, RepD L F vs ds → RepD L F (vs.map fun kv => if kv.1 = k then (kv.1, v) else kv) (ds.map fun kv => if kv.1 = k then (kv.1, d) else kv)
  | _, _, .nil => .nil
  | _, _, .cons (k := j) g r => by
    rw [List.map_cons, List.map_cons]
    by_cases e : j = k
    · simp only [e, if_true]
      exact .cons h (r.map k h)
    · simp only [e, if_false]
      exact .cons g (r.map k h)
theorem RepD.snoc {k : Key} {v : V} {d : D} (h : Rep L F v d) : ∀ {vs : List (Key × V)} {ds : List (Key × D)}, RepD L F vs ds → RepD L F (vs ++ [(k, v)]) (ds ++ [(k, d)])
  | _, _, .nil => .cons h .nil
  | _, _, .cons g r => .cons g (r.snoc h)
theorem RepD.put (k : Key) {v : V} {d : D} (h : Rep L F v d) {vs : List (Key × V)} {ds : List (Key × D)} (r : RepD L F vs ds) : RepD L F (putK vs k v) (putD ds k d) := by
  unfold putK putD
  rw [r.any k]
  by_cases e : (ds.any fun kv => decide (kv.1 = k)) = true
  · rw [if_pos e, if_pos e]
    exact r.map k h
  · rw [if_neg e, if_neg e]
    exact r.snoc h
end
section
variable {L : Lay} {E : L2.St → XK} {X : Cx} {rm : RM} {e o f : Expr} {me mk md : Me} {mx : Mx} {x : Str} {pos p0 cpos apos : Pos}
/-- {} -/
def mDct0 : Me := fun env => .ok (.dct []) env
theorem imO_dct0 : ImO L E X (.Dict [] [] pos) mDct0 := by
  refine ⟨_, pe_dnewK, fun Z σ env F H Q k h => fun p hp => ?_⟩
  exact h (V.ref p) F (upd H p (.dK [])) (Go.more k (same_upd hp)) ⟨p, rfl, cut_none hp, k.free hp, ⟨[], upd_same, .nil⟩, k.nomu (cut_none hp)⟩
/-! # x is True -/
end
end Pu

/-! # Pu39 -/
namespace Pu
open PySem PySem.Spec PyProof.Rows L2 Tc
/-! # lists with own objects in them, == -/
section
variable {L : Lay} {E : L2.St → XK} {X : Cx} {n : Nat} {a b : Expr} {ma mb : Mx} {pos : Pos} {fam : Fam}
end
/-! # def f(*v) -/
section
variable {P : Program} {w : World} {K : PySem.W.Frag} {mg : Str → Option Value} {base : Heap} {L : Lay} {F H F' H' : Hp}
end
section
variable {L : Lay} {E : L2.St → XK} {X : Cx} {k : Nat} {f : Addr} {x : Str} {e : Expr} {es : List Expr} {ma : Mxs} {φ : List D → Rz} {p pos : Pos} {n : Nat}
end
end Pu

/-! # Pu40 -/
namespace Pu
open PySem PySem.Spec PyProof.Rows L2 Tc
/-! # empty dicts in compared lists -/
def DNil : Eqv := fun x y H => ∃ a b, x = .ref a ∧ y = .ref b ∧ H a = some (.dK []) ∧ H b = some (.dK [])
theorem mon_nil : Mon DNil := fun x y H H' e d => by
  obtain ⟨a, b, hx, hy, h1, h2⟩ := d
  exact ⟨a, b, hx, hy, e _ _ h1, e _ _ h2⟩
theorem rcG_nil {X : Cx} {n : Nat} : RcG X (n + 1) DNil := by
  intro A pins s σ H x y u v sb I rx ry d
  obtain ⟨a, b, rfl, rfl, ea, eb⟩ := d
  cases rx
  cases ry
  obtain ⟨_, ya, va, ra, da⟩ := (show ObjOk X.prog X.w H s.heap a (.dK []) from I.hok a _ ea)
  obtain ⟨_, yb, vb, rb, db⟩ := (show ObjOk X.prog X.w H s.heap b (.dK []) from I.hok b _ eb)
  cases ra
  cases rb
  exact PySem.W.keq_eq (knd := mixKind X.prog X.w) (r := true) ya yb da db sb.room.units0 (fun _ => hits_all .nil .nil fun p hp => nomatch hp) ⟨rfl, H, I, Ext.rfl'⟩
theorem eqG_nil {X : Cx} {n : Nat} : EqG X (n + 1) DNil := rcG_nil.eqG fun _ _ _ d => let ⟨a, b, hx, hy, _⟩ := d; ⟨a, b, hx, hy⟩
def prE (fam : Fam) : D → D → Bool
  | .dct [], .dct [] => true
  | d, e => prO1 fam d e
def prsE (fam : Fam) : List D → List D → Bool
  | [], [] => true
  | d :: ds, e :: es => prE fam d e && prsE fam ds es
  | _, _ => false
def gNeE (fam : Fam) : D → D → Option D
  | .lst ds, .lst es => if prsE fam ds es = true then some (.bl false) else none
  | _, _ => none
section
variable {L : Lay} {X : Cx} {n : Nat} {fam : Fam}
def famE2 (L : Lay) (K : PySem.W.Frag) (fam : Fam) : Eqv := fun x y H => famE1 L K fam x y H ∨ DNil x y H
theorem mon_fam2 {K : PySem.W.Frag} (fam : Fam) : Mon (famE2 L K fam) := Mon.or (mon_fam1 fam) mon_nil
theorem eqG_fam2 {fam : Fam} (h : FamF L X n fam) : EqG X (n + 1) (famE2 L X.K fam) := EqG.or (eqG_fam1 h) eqG_nil
theorem prE_ok {K : PySem.W.Frag} {fam : Fam} {F H : Hp} (s : Same F H) {x y : V} {d e : D} (rx : Rep L F x d) (ry : Rep L F y e) (h : prE fam d e = true) : famE2 L K fam x y H := by
  unfold prE at h
  split at h
  · obtain ⟨a, vs, rfl, e1, r1⟩ := rx.top s
    obtain ⟨b, ws, rfl, e2, r2⟩ := ry.top s
    cases r1
    cases r2
    exact .inr ⟨a, b, rfl, rfl, e1, e2⟩
  · exact .inl (pr1_ok s rx ry h)
theorem prsE_ok {K : PySem.W.Frag} {fam : Fam} {F H : Hp} (s : Same F H) : ∀ {xs ys : List V} {ds es : List D}, RepA L F xs ds → RepA L F ys es → prsE fam ds es = true → Prs (famE2 L K fam) xs ys H
  | _, _, _, _, .nil, .nil, _ => Prs.nil
  | _, _, _, _, .nil, .cons _ _, h => by cases h
  | _, _, _, _, .cons _ _, .nil, h => by cases h
  | _, _, _, _, .cons h1 r1, .cons h2 r2, h => by
    rw [prsE, Bool.and_eq_true] at h
    exact Prs.cons (prE_ok s h1 h2 h.1) (prsE_ok s r1 r2 h.2)
end
section
variable {L : Lay} {E : L2.St → XK} {X : Cx} {n : Nat} {a b : Expr} {ma mb : Mx} {pos : Pos} {fam : Fam}
theorem neE_in {ta tb : TE} (ia : Im L E (rOp L) ta ma) (ib : Im L E (rOp L) tb mb) : Im L E (rDat L) (tOp (rNeOwn (famE2 L X.K fam)) ta tb) (mBin (gNeE fam) ma mb) := fun Z σ env F H Q k h => by
  refine bin_in ia ib k h fun env2 F2 H2 x y dx dy d k2 tx ty eg w => ?_
  unfold gNeE at eg
  split at eg
  · split at eg
    · rename_i ds es hp
      cases eg
      obtain ⟨p, vs, rfl, h1, r1⟩ := tx
      obtain ⟨q, ws, rfl, h2, r2⟩ := ty
      exact ⟨p, q, vs, ws, rfl, rfl, h1, h2, prsE_ok k2.fh r1 r2 hp, fun H' e => w _ F2 H' (Go.more k2 e) (.bl _)⟩
    · cases eg
  · cases eg
theorem imT_neE (hf : FamF L X n fam) (hr : Room (n + 2) X.A) (ha : ImX L E X a ma) (hb : ImX L E X b mb) (hm : behindInMarks .NotEq b = false := by first | exact nomark _ | rfl) : ImT L E X (.Compare a [.NotEq] [b] pos) (mTst (mBin (gNeE fam) ma mb)) := by
  obtain ⟨ta, pa, ia⟩ := ha
  obtain ⟨tb, pb, ib⟩ := hb
  exact ⟨_, pt_cmpR (op_neOwn (mon_fam2 fam) (eqG_fam2 hf) hr) pa pb hm, tst_in (neE_in ia ib)⟩
end
end Pu

/-! # Pu41 -/
namespace Pu
open PySem PySem.Spec PyProof.Rows L2 Tc
/-! # xs == [], whatever stands in xs -/
section
variable {L : Lay} {X : Cx}
end
end Pu

/-! # Pu42 -/
namespace Pu
open PySem L2
/-! # more steps evaluated: dicts, extend, while -/
section
variable {env env1 env2 : Env'} {me mk md : Me} {mx my : Mx} {d e f r : D} {i : Nat} {l : List D} {kvs : List (Key × D)} {kk : Key}
theorem wh_t {t : Mt} {body : Ms} {n : Nat} {o : Out} (h : t env = .ok true env) (h2 : body env = .nx env1) (h3 : whlL t body n env1 = o) : whlL t body (n + 1) env = o := by
  simp only [whlL, h, h2, if_true, h3]
theorem wh_f {t : Mt} {body : Ms} {n : Nat} (h : t env = .ok false env) : whlL t body (n + 1) env = .nx env := by
  simp only [whlL, h, Bool.false_eq_true, if_false]
end
end Pu

/-! # Pu43 -/
namespace Pu
open PySem PySem.Spec PyProof.Rows L2
/-! # zip over lists and tuples in any mix -/
def ItB : Bool → Heap → Addr → Addr → Nat → Prop
  | true => fun h it l i => h.IsTupleIter it l i
  | false => fun h it l i => h.IsListIter it l i
def SeB : Bool → Heap → Addr → Array Value → Prop
  | true => fun h l xs => h.IsTuple l xs
  | false => fun h l xs => h.IsList l xs
section
variable {X : Cx} {pins : List (Addr × Obj)} {σ : L2.St} {H : Hp} {s : Shared} {k : Bool} {a : Addr} {xs ys : List V}
end
section
variable {k : Bool} {h h' : Heap} {it l : Addr} {i : Nat} {xs : Array Value}
theorem ItB.ob (st : ItB k h it l i) : ∃ o, h.get? it = some o ∧ ∀ v, o.data ≠ .cell v := by
  cases k <;> (obtain ⟨o, e, _, d⟩ := st; exact ⟨o, e, fun v q => by rw [d] at q; cases q⟩)
theorem ItB.keep (st : ItB k h it l i) (e : ∀ o, h.get? it = some o → h'.get? it = some o) : ItB k h' it l i := by
  cases k
  · exact Heap.IsListIter.at st e
  · exact Heap.IsTupleIter.at st e
theorem SeB.lt (st : SeB k h l xs) : l < h.objs.size := by
  cases k
  · obtain ⟨o, e, _⟩ := st
    exact Heap.lt_size e
  · obtain ⟨o, e, _⟩ := st
    exact Heap.lt_size e
end
def StZ (ka kb : Bool) (z TI TO i1 i2 a b : Addr) (i : Nat) (h : Heap) : Prop := IsZip h z TI TO .none ∧ IsTupOf2 h TI (.ref i1) (.ref i2) ∧ (∃ x y, IsTupOf2 h TO x y) ∧ ItB ka h i1 a i ∧ ItB kb h i2 b i
theorem StZ.ob {ka kb : Bool} {z TI TO i1 i2 a b : Addr} {i : Nat} {h : Heap} (st : StZ ka kb z TI TO i1 i2 a b i h) : ∀ c ∈ [z, TI, TO, i1, i2], ∃ o, h.get? c = some o ∧ ∀ v, o.data ≠ .cell v := by
  obtain ⟨hz, hTI, ⟨x, y, hTO⟩, h1, h2⟩ := st
  intro c hc
  simp only [List.mem_cons, List.not_mem_nil, or_false] at hc
  rcases hc with rfl | rfl | rfl | rfl | rfl
  · exact ⟨_, hz, fun v q => nomatch q⟩
  · exact ⟨_, hTI, fun v q => nomatch q⟩
  · exact ⟨_, hTO, fun v q => nomatch q⟩
  · exact h1.ob
  · exact h2.ob
def seqD : D → Option (List D)
  | .lst l => some l
  | .tup l => some l
  | .ctp l => some l
  | _ => none
/-- over zip(.., ..) -/
def iZpB (ma mb : Me) : Env' → Rx (List D) := fun env => (ma env).bind fun d env1 => (mb env1).bind fun d' env2 => match seqD d, seqD d' with
  | some l, some l' => .ok ((l.zip l').map fun z => .tup [z.1, z.2]) env2
  | _, _ => .no
section
variable {L : Lay} {E : L2.St → XK} {X : Cx} {a b : Expr} {p : Pos}
end
end Pu

/-! # Pu44 -/
namespace Pu
open PySem PySem.Spec PyProof.Rows L2
/-! # enumerate over lists and tuples -/
section
variable {prog : Program} {w : World} {A : Around} {E : Value → Shared → Prop} {s : Shared}
end
def StE (k : Bool) (e it a : Addr) (i : Nat) (h : Heap) : Prop := (∃ old, IsEnum h e it ((i : Nat) : Int) old) ∧ ItB k h it a i
theorem StE.ob {k : Bool} {e it a : Addr} {i : Nat} {h : Heap} (st : StE k e it a i h) : ∀ c ∈ [e, it], ∃ o, h.get? c = some o ∧ ∀ v, o.data ≠ .cell v := by
  obtain ⟨⟨old, he⟩, h1⟩ := st
  intro c hc
  simp only [List.mem_cons, List.not_mem_nil, or_false] at hc
  rcases hc with rfl | rfl
  · exact ⟨_, he, fun v q => nomatch q⟩
  · exact h1.ob
/-- over enumerate(..) -/
def iEnB (me : Me) : Env' → Rx (List D) := fun env => (me env).bind fun d env1 => match seqD d with
  | some l => .ok (enumD l) env1
  | none => .no
section
variable {L : Lay} {E : L2.St → XK} {X : Cx} {a b : Expr} {p : Pos}
end
end Pu

/-! # Pu45 -/
namespace Pu
open PySem PySem.Spec PyProof.Rows L2 Tc
section
variable {L : Lay} {E : L2.St → XK} {X : Cx} {o e : Expr} {es : List Expr} {mx : Mx} {me : Me} {p apos cpos pos p2 : Pos} {x : Str}
/-! # max(xs) -/
/-! # f(*t) -/
/-! # repr, empty dicts among the data; of None and of truth values -/
mutual
def toPyE : D → Option PyData
  | .non => some .none
  | .bl b => some (.bool b)
  | .int i => some (.int i)
  | .str s => some (.str s)
  | .lst l => (toPyEA l).map .list
  | .tup l => (toPyEA l).map .tuple
  | .ctp l => (toPyEA l).map .tuple
  | .dct [] => some (.dict [])
  | .tl _ l => (toPyEA l).map .list
  | _ => none
def toPyEA : List D → Option (List PyData)
  | [] => some []
  | d :: ds => match toPyE d, toPyEA ds with
    | some p, some ps => some (p :: ps)
    | _, _ => none
end
mutual
theorem Rep.dqE {F : Hp} : ∀ (d : D) (v : V) (p : PyData), Rep L F v d → toPyE d = some p → Dq L.K F v p
  | .non, _, _, r, h => by cases r; cases h; exact .no
  | .bl b, _, _, r, h => by cases r; cases h; exact .bo b
  | .int i, _, _, r, h => by cases r; cases h; exact .it i
  | .str s, _, _, r, h => by cases r; cases h; exact .tx s
  | .lst ds, v, p, r, h => by
    cases r with
    | lst e r =>
      rw [toPyE] at h
      cases q : toPyEA ds with
      | none => rw [q] at h; cases h
      | some ps => rw [q] at h; cases h; exact .li (SqL.of e) (RepA.dqE ds _ _ r q)
  | .tup ds, v, p, r, h => by
    cases r with
    | tup e r =>
      rw [toPyE] at h
      cases q : toPyEA ds with
      | none => rw [q] at h; cases h
      | some ps => rw [q] at h; cases h; exact .tu (SqT.of e) (RepA.dqE ds _ _ r q)
  | .ctp ds, v, p, r, h => by
    cases r with
    | ctp e r =>
      rw [toPyE] at h
      cases q : toPyEA ds with
      | none => rw [q] at h; cases h
      | some ps => rw [q] at h; cases h; exact .tu e (RepA.dqE ds _ _ r q)
  | .dct [], v, p, r, h => by
    cases r with
    | dct e r =>
      cases r
      cases h
      exact .em e
  | .dct (_ :: _), _, _, _, h => nomatch h
  | .obj _ _, _, _, _, h => nomatch h
  | .scr _, _, _, _, h => nomatch h
  | .tl _ ds, v, p, r, h => by
    cases r with
    | tl e r =>
      rw [toPyE] at h
      cases q : toPyEA ds with
      | none => rw [q] at h; cases h
      | some ps => rw [q] at h; cases h; exact .li (SqL.of e) (RepA.dqE ds _ _ r q)
  | .pt _, _, _, _, h => nomatch h
  | .exv _, _, _, _, h => nomatch h
theorem RepA.dqE {F : Hp} : ∀ (d : List D) (v : List V) (p : List PyData), RepA L F v d → toPyEA d = some p → DqA L.K F v p
  | [], _, _, r, h => by cases r; cases h; exact .no
  | d :: ds, _, _, r, h => by
    cases r with
    | cons r rs =>
      rw [toPyEA] at h
      cases q : toPyE d with
      | none => rw [q] at h; cases h
      | some x =>
        cases q2 : toPyEA ds with
        | none => rw [q, q2] at h; cases h
        | some xs => rw [q, q2] at h; cases h; exact .co (Rep.dqE d _ _ r q) (RepA.dqE ds _ _ rs q2)
end
def gReprE : List D → Option D
  | [.non] => some (.str "None")
  | [.bl b] => some (.str (if b then "True" else "False"))
  | [d] => match toPyE d with
    | some p => if isRef d = true ∧ p.showable = true ∧ p.depth ≤ 8 ∧ p.shown.length ≤ sizeLine then some (.str p.shown) else none
    | none => none
  | _ => none
def rReprE (K : PySem.W.Frag) : List V → Hp → VK → Prop := fun vs H Q => rRepr K vs H Q ∨ (vs = [.non] ∧ Q (.str "None") H) ∨ ∃ b : Bool, vs = [.bl b] ∧ Q (.str (if b then "True" else "False")) H
theorem call_reprE (hg : X.A.guards = some []) (hu : X.A.units + 64 < cLine) (hS : SysD X.base) : CallR X (.builtin "repr") (rReprE X.K) := by
  intro pins s σ H xs us Q I r h
  rcases h with h | ⟨e, q⟩ | ⟨b, e, q⟩
  · exact call_reprQ hg hu hS pins s σ H xs us Q I r h
  · subst e
    obtain ⟨u, eu, ru⟩ := vals1 r
    rw [eu]
    cases ru
    exact PySem.P.repr_of_none ⟨.str _, H, I.tok _, ⟨_, rfl⟩, q⟩
  · subst e
    obtain ⟨u, eu, ru⟩ := vals1 r
    rw [eu]
    cases ru
    exact PySem.P.repr_of_bool ⟨.str _, H, I.tok _, ⟨_, rfl⟩, q⟩
theorem cd_reprE (hK : L.K = X.K) (hg : X.A.guards = some []) (hu : X.A.units + 100 < cLine) (hS : SysD X.base) : CallD L X (.builtin "repr") gReprE := by
  refine ⟨_, call_reprE hg (by omega) hS, fun F H vs ds d Q s t e w => ?_⟩
  unfold gReprE at e
  split at e
  · obtain ⟨v, rfl, tv⟩ := top1 t
    cases tv
    cases e
    exact .inr (.inl ⟨rfl, w _ F H (.here (.str _))⟩)
  · obtain ⟨v, rfl, tv⟩ := top1 t
    cases tv
    cases e
    exact .inr (.inr ⟨_, rfl, w _ F H (.here (.str _))⟩)
  · rename_i d0 _ _
    obtain ⟨v, rfl, tv⟩ := top1 t
    cases q : toPyE d0 with
    | none => rw [q] at e; cases e
    | some p =>
      rw [q] at e
      dsimp only at e
      by_cases hp : isRef d0 = true ∧ p.showable = true ∧ p.depth ≤ 8 ∧ p.shown.length ≤ sizeLine
      case neg => rw [if_neg hp] at e; cases e
      rw [if_pos hp] at e
      cases e
      obtain ⟨h1, h2, h3, h4⟩ := hp
      have dq := Rep.dqE _ _ _ (tv.rep s) q
      rw [hK] at dq
      have isr : ∃ a, v = .ref a := by
        cases d0 with
        | lst ds => obtain ⟨a, us, rfl, _⟩ := tv; exact ⟨a, rfl⟩
        | tup ds => obtain ⟨a, us, rfl, _⟩ := tv; exact ⟨a, rfl⟩
        | ctp ds => obtain ⟨a, us, rfl, _⟩ := tv; exact ⟨a, rfl⟩
        | tl a ds => obtain ⟨rfl, _⟩ := tv; exact ⟨_, rfl⟩
        | _ => cases h1
      obtain ⟨a, rfl⟩ := isr
      exact .inl (.inr ⟨a, p, rfl, dq, h2, h3, h4, w _ F H (.here (.str _))⟩)
  · cases e
end
end Pu

/-! # Pu46 -/
namespace Pu
open PySem PySem.Spec PyProof.Rows L2 Tc
/-! # x is not True -/
section
variable {L : Lay} {X : Cx}
end
/-! # try: .. except C as e: return not a and e.f == b -/
section
variable {L : Lay} {E : L2.St → XK} {X : Cx} {K : PySem.W.Frag} {Z F H F1 H1 : Hp} {σ σ1 : L2.St} {env env1 : Env'} {N : Ends} {Wz : WX}
end
section
variable {L : Lay} {E : L2.St → XK} {X : Cx} {body : List Stmt} {pos : Pos} {m : Ms}
end
end Pu

/-! # Pu47 -/
namespace Pu
open PySem PySem.Spec PyProof.Rows L2 Tc
/-! # f(e, .., k = v, ..) -/
section
variable {X : Cx} {CX : CXT} {k n : Nat} {f : Addr} {fd : FuncData} {ps ks : List Str} {sp : Sp} {x : Str} {p pos : Pos} {e : Expr} {es : List Expr} {kws : List Keyword} {t tk : TA} {g : List Value → List Value → List Value} {gV : List V → List V → List V}
end
def mCallK (n j : Nat) (φ : List D → Rz) (sh : List Src) (ma mk : Mxs) : Me := fun env => (ma env).bind fun xs env2 => (mk env2).bind fun zs env3 => if xs.length = n ∧ zs.length = j then callZ φ (List.replicate sh.length false) (gS (.inl .non) sh xs zs) env3 else .no
section
variable {L : Lay} {E : L2.St → XK} {X : Cx} {k n : Nat} {f : Addr} {fd : FuncData} {ps ks : List Str} {x : Str} {p pos : Pos} {e : Expr} {es : List Expr} {kws : List Keyword} {ma mk : Mxs} {φ : List D → Rz} {sh : List Src}
end
end Pu

/-! # Pu48 -/
namespace Pu
open PySem PySem.Spec PyProof.Rows L2 Tc
/-! # f() -/
section
variable {L : Lay} {E : L2.St → XK} {X : Cx} {k : Nat} {f : Addr} {fd : FuncData} {x : Str} {p pos : Pos} {φ : List D → Rz} {ms : List Bool}
end
end Pu

/-! # Pu49 -/
namespace Pu
open PySem PySem.Spec PyProof.Rows L2 Tc
/-! # a comprehension in a comprehension's own block -/
end Pu

/-! # Pu50 -/
namespace Pu
open PySem PySem.Spec PyProof.Rows L2 Tc
/-! # texts: order, a sign in one, cut, walked, joined, split, as numbers -/
section
variable {L : Lay} {E : L2.St → XK} {X : Cx} {e a b c o tg : Expr} {ma mb : Me} {mx my : Mx} {pos p2 p apos : Pos}
/-! ## x[a:b], x a text -/
/-! ## for c in x -/
/-! ## x.join(xs), x.split(y) -/
/-! ## int(x), x a text -/
end
end Pu

/-! # Pu51 -/
namespace Pu
open PySem PySem.Spec PyProof.Rows L2 Tc
/-! # {k: v}, both plain: constants or names -/
section
variable {L : Lay} {E : L2.St → XK} {X : Cx} {e ek ev : Expr} {mk mv : Me} {pos : Pos}
end
end Pu

/-! # Pu52 -/
namespace Pu
open PySem PySem.Spec PyProof.Rows L2 Tc
/-! # f(k = v, ..), nothing by place -/
section
variable {X : Cx} {CX : CXT} {k : Nat} {f : Addr} {fd : FuncData} {ps ks : List Str} {sp : Sp} {x : Str} {p pos : Pos} {kws : List Keyword} {tk : TA} {g : List Value → List Value → List Value} {gV : List V → List V → List V}
end
section
variable {L : Lay} {E : L2.St → XK} {X : Cx} {k : Nat} {f : Addr} {fd : FuncData} {ps ks : List Str} {x : Str} {p pos : Pos} {kws : List Keyword} {mk : Mxs} {φ : List D → Rz} {sh : List Src}
end
end Pu

/-! # Pu53 -/
namespace Pu
open PySem PySem.Spec PyProof.Rows L2 Tc
/-! # i in range(a, b) -/
section
variable {L : Lay} {E : L2.St → XK} {X : Cx} {e a b : Expr} {mi ma mb : Me} {pos p pos1 : Pos}
end
end Pu

/-! # Pu54 -/
namespace Pu
open PySem PySem.Spec PyProof.Rows L2 Tc
/-! # an exception object as a value -/
section
variable {X : Cx} {e : Expr} {t : L2.St → Hp → XK → Prop}
end
/-! ## by meaning -/
section
variable {L : Lay} {E : L2.St → XK} {X : Cx} {a b e : Expr} {es : List Expr} {mx : Mx} {ma : Ma} {p pos : Pos} {x : Str}
end
end Pu

/-! # Pu55 -/
namespace Pu
open PySem PySem.Spec PyProof.Rows L2 Tc
open Builtin Builtin.List
/-! # repr of lists and tuples in which own objects stand -/
section
variable {X : Cx}
end
end Pu

/-! # Pu56 -/
namespace Pu
open PySem PySem.Spec PyProof.Rows L2 Tc
open Builtin Builtin.List
section
variable {X : Cx}
end
end Pu

/-! # Pu57 -/
namespace Pu
open PySem PySem.Spec PyProof.Rows L2 Tc
open Builtin Builtin.List
section
variable {X : Cx}
end
end Pu

/-! # Pu58 -/
namespace Pu
open PySem PySem.Spec PyProof.Rows L2 Tc
/-! # what is read of data, small dicts among them -/
section
variable {L : Lay} {X : Cx} {pins : List (Addr × Obj)} {σ : L2.St} {F H : Hp} {s : Shared}
end
end Pu

/-! # Pu59 -/
namespace Pu
open PySem PySem.Spec PyProof.Rows L2 Tc
open Builtin Builtin.List
/-! # an own __repr__ that shows a list of whole numbers: return f"PRE{list(self.FLD)})" -/
section
variable {X : Cx}
end
end Pu

/-! # Pu60 -/
namespace Pu
open PySem PySem.Spec PyProof.Rows L2 Tc
open Builtin Builtin.List
section
variable {X : Cx}
end
/-! ## by meaning -/
section
variable {L : Lay} {E : L2.St → XK} {X : Cx} {e : Expr} {mx : Mx} {p pos : Pos}
end
end Pu

/-! # Pu61 -/
namespace Pu
open PySem PySem.Spec PyProof.Rows L2 Tc
end Pu

/-! # Pu62 -/
namespace Pu
open PySem PySem.Spec PyProof.Rows L2 Tc
/-! # defaults that are written: whole numbers, texts, truth values, None -/
inductive CK where
  | non | bl (b : Bool) | int (i : Int) | str (s : Str)
def CK.v : CK → V
  | .non => .non
  | .bl b => .bl b
  | .int i => .int i
  | .str s => .str s
def CK.d : CK → D
  | .non => .non
  | .bl b => .bl b
  | .int i => .int i
  | .str s => .str s
theorem CK.rep {L : Lay} {F : Hp} : ∀ k : CK, Rep L F k.v k.d
  | .non => .non
  | .bl b => .bl b
  | .int i => .int i
  | .str s => .str s
inductive Src2 where
  | pos (i : Nat) | kw (i : Nat) | cst (k : CK)
def gT {α : Type} (nn : α) (c : CK → α) (sh : List Src2) (us ws : List α) : List α := sh.map fun
  | .pos i => us.getD i nn
  | .kw i => ws.getD i nn
  | .cst k => c k
def mCallD (n j : Nat) (φ : List D → Rz) (sh : List Src2) (ma mk : Mxs) : Me := fun env => (ma env).bind fun xs env2 => (mk env2).bind fun zs env3 => if xs.length = n ∧ zs.length = j then callZ φ (List.replicate sh.length false) (gT (.inl .non) (fun k => .inl k.d) sh xs zs) env3 else .no
def mMethD (c n j : Nat) (φ : List D → Rz) (sh : List Src2) (mo : Mx) (ma mk : Mxs) : Me := fun env => (mo env).bind fun y env1 => if isObj' c (deref env1 y) = true then
  (ma env1).bind fun xs env2 => (mk env2).bind fun zs env3 => if xs.length = n ∧ zs.length = j then callZ φ (List.replicate sh.length false) (gT (.inl .non) (fun k => .inl k.d) sh (y :: xs) zs) env3 else .no else .no
section
variable {L : Lay} {E : L2.St → XK} {X : Cx} {k n : Nat} {f C : Addr} {fd : FuncData} {ps ks : List Str} {x m : Str} {p pos apos : Pos} {e o : Expr} {es : List Expr} {kws : List Keyword} {ma mk : Mxs} {mx : Mx} {φ : List D → Rz} {sh : List Src2}
end
/-! # a result that is None or a thing of its own -/
section
variable {L : Lay} {E : L2.St → XK} {X : Cx}
end
section
variable {P : Program} {w : World} {K : PySem.W.Frag} {mg : Str → Option Value} {base : Heap} {L : Lay}
end
section
variable {L : Lay} {Z F H F' H' : Hp} {σ : L2.St} {env env' : Env'}
end
def slM : D → Sl
  | .non => .dat .non
  | d => .own d
def sSetM (i : Nat) (me : Me) : Ms := fun env => thenS (me env) fun d env1 => if i < env1.length then .nx (env1.set i (slM d)) else .no
section
variable {L : Lay} {E : L2.St → XK} {X : Cx} {rm : RM} {k n : Nat} {f C : Addr} {fd : FuncData} {ps ks : List Str} {x m : Str} {p pos apos : Pos} {e o : Expr} {es : List Expr} {kws : List Keyword} {me : Me} {ma mk : Mxs} {mx : Mx} {φ : List D → Rz} {sh : List Src2}
end
/-! # texts: split, index, times -/
section
variable {L : Lay} {E : L2.St → XK} {X : Cx} {o e : Expr} {mo me : Me} {apos cpos : Pos}
end
end Pu

/-! # Pu63 -/
namespace Pu
open PySem PySem.Spec PyProof.Rows L2 Tc
/-! # xs != [], whatever stands in xs -/
section
variable {L : Lay} {X : Cx}
end
/-! # repr, no own objects -/
section
variable {L : Lay} {E : L2.St → XK} {X : Cx} {e : Expr} {mx : Mx} {p pos : Pos}
end
end Pu

/-! # Pu64 -/
namespace Pu
open PySem PySem.Spec PyProof.Rows L2 Tc
/-! # a lambda handed to a def that catches -/
section
variable {L : Lay} {E : L2.St → XK} {X : Cx} {e : Expr} {m : Me}
end
section
variable {X : Cx} {Ng : List Str} {x a q tag : Str} {sg : Scope} {g : Addr} {cdg : Value} {j : Nat} {p1 p2 p3 p5 p6 p8 : Pos} {h0 : ExceptHandler} {hs : List ExceptHandler} {l : List Hl}
end
/-- what happens in a frame that holds nothing of its own -/
theorem Go.beside {L : Lay} {Z Z2 F H F' H' : Hp} {σ σ2 σ3 : L2.St} {env env2 env3 : Env'} (k : Ok L Z F H σ env) (g : Go L Z2 F H σ2 env2 F' H' σ3 env3) (nm : ∀ i a, ¬ Mu σ2 env2 i a) : Go L Z F H σ env F' H' σ env :=
  go_of (ps := []) (is := []) (ios := []) k ⟨g.ff, g.ok.fh, g.ok.tb, g.ok.nt, fun a o e t _ => g.kp a o e t fun i => nm i a, fun a o e t _ => g.fr a o e t fun i => nm i a, g.dm, .nil⟩ rfl (fun t i h => by simp at h) List.nodup_nil rfl
section
variable {L : Lay} {E : L2.St → XK} {X : Cx} {tag : Str} {i n : Nat} {ms : List Hm} {m : Me} {l : List Hl} {K : PySem.W.Frag}
end
section
variable {L : Lay} {E : L2.St → XK} {X : Cx} {Ng : List Str} {x a tag : Str} {st : Stmt} {g c P : Addr} {fd : FuncData} {j i k : Nat} {p1 p2 p3 p5 p6 p8 p lpos pos : Pos} {h0 : ExceptHandler} {hs : List ExceptHandler} {l : List Hl} {ms : List Hm} {m : Me} {params : Arguments} {body : Expr} {scope : Scope}
end
/-! # a def that makes lambdas: its code object is known -/
section
variable {P : Program} {w : World} {K : PySem.W.Frag} {mg : Str → Option Value} {base : Heap} {L : Lay}
end
end Pu

/-! # Pu65 -/
namespace Pu
open PySem PySem.Spec PyProof.Rows L2 Tc
/-! # o.m(e, .., k = v), defaults written -/
section
variable {L : Lay} {E : L2.St → XK} {X : Cx} {k n : Nat} {f C : Addr} {fd : FuncData} {ps ks : List Str} {m : Str} {pos apos kpos : Pos} {e o : Expr} {es : List Expr} {kws : List Keyword} {ma mk : Mxs} {mx : Mx} {φ : List D → Rz} {sh : List Src2} {me : Me} {nm : Option Str}
end
end Pu

/-! # Pu66 -/
namespace Pu
open PySem PySem.Spec PyProof.Rows L2 Tc
/-! # the law called, tables of code objects known: cs tells each maker's code object and table -/
end Pu

/-! # Pu67 -/
namespace Pu
open PySem Tc
/-! # meanings evaluated step by step: one lemma for each form -/
theorem sz1000 {n : Nat} (h : n ≤ 1000) : n ≤ sizeLine := by rw [PySem.sizeLine_eq]; omega
theorem szM {n : Nat} (h : n ≤ 1000000) : n ≤ sizeLine := by rw [PySem.sizeLine_eq]; omega
theorem gx_var {env : Env'} {i : Nat} {d : D} (h : env[i]? = some (.dat d)) : mVar i env = .ok d env := by
  unfold mVar
  rw [h]
theorem gx_c (d : D) (env : Env') : mC d env = .ok d env := rfl
theorem gx_e {m : Me} {env env1 : Env'} {d : D} (h : m env = .ok d env1) : xE m env = .ok (.inl d) env1 := by
  unfold xE
  rw [h]
  rfl
theorem gx_xn (env : Env') : xsNil env = .ok [] env := rfl
theorem gx_an (env : Env') : aNil env = .ok [] env := rfl
theorem gx_xc {m : Mx} {r : Mxs} {env env1 env2 : Env'} {x : XD} {xs : List XD} (h : m env = .ok x env1) (hr : r env1 = .ok xs env2) : xsCons m r env = .ok (x :: xs) env2 := by
  unfold xsCons
  rw [h]
  simp only [Rx.bind]
  rw [hr]
theorem gx_ac {m : Me} {r : Ma} {env env1 env2 : Env'} {x : D} {xs : List D} (h : m env = .ok x env1) (hr : r env1 = .ok xs env2) : aCons m r env = .ok (x :: xs) env2 := by
  unfold aCons
  rw [h]
  simp only [Rx.bind]
  rw [hr]
theorem gx_lst {ma : Ma} {ds : List D} {env env1 : Env'} (h : ma env = .ok ds env1) (h2 : Nat.ble ds.length 1000 = true) : mLst ma env = .ok (.lst ds) env1 := by
  unfold mLst
  rw [h]
  exact if_pos (sz1000 (Nat.le_of_ble_eq_true h2))
theorem gx_tup {ma : Ma} {ds : List D} {env env1 : Env'} (h : ma env = .ok ds env1) (h2 : Nat.ble ds.length 1000 = true) : mTup ma env = .ok (.tup ds) env1 := by
  unfold mTup
  rw [h]
  exact if_pos (sz1000 (Nat.le_of_ble_eq_true h2))
theorem gx_bin {g : D → D → Option D} {ma mb : Mx} {env env1 env2 : Env'} {x y : XD} {dx dy d : D} (h1 : ma env = .ok x env1) (h2 : mb env1 = .ok y env2) (e1 : deref env2 x = some dx) (e2 : deref env2 y = some dy) (hg : g dx dy = some d) : mBin g ma mb env = .ok d env2 := by
  unfold mBin
  rw [h1]
  simp only [Rx.bind]
  rw [h2]
  dsimp only
  rw [e1, e2]
  dsimp only
  rw [hg]
  rfl
theorem gx_un {g : D → Option D} {ma : Mx} {env env1 : Env'} {x : XD} {dx d : D} (h1 : ma env = .ok x env1) (e1 : deref env1 x = some dx) (hg : g dx = some d) : mUn g ma env = .ok d env1 := by
  unfold mUn
  rw [h1]
  simp only [Rx.bind]
  rw [e1]
  dsimp only
  rw [hg]
  rfl
theorem gx_blt {g : List D → Option D} {ma : Mxs} {env env1 : Env'} {xs : List XD} {ds : List D} {d : D} (h1 : ma env = .ok xs env1) (e1 : derefs env1 xs = some ds) (hg : g ds = some d) : mBlt g ma env = .ok d env1 := by
  unfold mBlt
  rw [h1]
  simp only [Rx.bind]
  rw [e1]
  dsimp only
  rw [hg]
  rfl
theorem gx_fld {c k : Nat} {mo : Mx} {env env1 : Env'} {x : XD} {fs : List (Nat × D)} {d : D} (h1 : mo env = .ok x env1) (e1 : deref env1 x = some (.obj c fs)) (h2 : fs.lookup k = some d) : mFld c k mo env = .ok d env1 := by
  unfold mFld
  rw [h1]
  simp only [Rx.bind]
  rw [e1]
  dsimp only
  rw [if_pos rfl, h2]
  rfl
theorem gx_isi {fl : List (String × Bool)} {cs : List (Nat × Bool)} {mo : Mx} {env env1 : Env'} {x : XD} {d : D} {b : Bool} (h1 : mo env = .ok x env1) (e1 : deref env1 x = some d) (h2 : gIsi fl cs d = some b) : mIsi fl cs mo env = .ok (.bl b) env1 := by
  unfold mIsi
  rw [h1]
  simp only [Rx.bind]
  rw [e1]
  dsimp only
  rw [h2]
  rfl
theorem gx_os {m : Me} {env env1 : Env'} {i : Int} (h : m env = .ok (.int i) env1) : oSo m env = .ok (some i) env1 := by
  unfold oSo
  rw [h]
  rfl
theorem gx_on (env : Env') : oNo env = .ok none env := rfl
theorem gx_sl {g : D → Option Int → Option Int → Option D} {mx : Mx} {lo hi : Mo} {env env1 env2 env3 : Env'} {x : XD} {l u : Option Int} {dx d : D} (h1 : mx env = .ok x env1) (h2 : lo env1 = .ok l env2) (h3 : hi env2 = .ok u env3) (e1 : deref env3 x = some dx) (hg : g dx l u = some d) : mSl g mx lo hi env = .ok d env3 := by
  unfold mSl
  rw [h1]
  simp only [Rx.bind]
  rw [h2]
  dsimp only
  rw [h3]
  dsimp only
  rw [e1]
  dsimp only
  rw [hg]
  rfl
/-! calls -/
def zIo (z : Rz) (is : List Nat) (env : Env') : Rx D := match z with
  | .ok d ios => match backIo env is ios with
    | some e => .ok d e
    | none => .no
  | .er c fs ios => match backIo env is ios with
    | some e => .er c fs e
    | none => .no
  | .no => .no
theorem gx_callZ {φ : List D → Rz} {ms : List Bool} {xs : List XD} {env : Env'} {ds : List D} {is : List Nat} {z : Rz} (ha : argsOf env ms xs = some ds) (hi : ioS ms xs = is) (hn : is.Nodup) (hf : φ ds = z) : callZ φ ms xs env = zIo z is env := by
  unfold callZ
  rw [ha, hi]
  dsimp only
  rw [if_pos hn, hf]
  rfl
theorem gx_call {φ : List D → Rz} {ms : List Bool} {ma : Mxs} {env env1 : Env'} {xs : List XD} {ds : List D} {is : List Nat} {z : Rz} {o : Rx D} (h : ma env = .ok xs env1) (ha : argsOf env1 ms xs = some ds) (hi : ioS ms xs = is) (hn : is.Nodup) (hf : φ ds = z) (ho : zIo z is env1 = o) : mCall φ ms ma env = o := by
  unfold mCall
  rw [h]
  simp only [Rx.bind]
  exact (gx_callZ ha hi hn hf).trans ho
theorem gx_meth {c : Nat} {φ : List D → Rz} {ms : List Bool} {mo : Mx} {ma : Mxs} {env env1 env2 : Env'} {y : XD} {xs : List XD} {ds : List D} {is : List Nat} {z : Rz} {o : Rx D} (h0 : mo env = .ok y env1) (hy : isObj' c (deref env1 y) = true) (h : ma env1 = .ok xs env2) (ha : argsOf env2 ms (y :: xs) = some ds) (hi : ioS ms (y :: xs) = is) (hn : is.Nodup) (hf : φ ds = z) (ho : zIo z is env2 = o) : mMeth c φ ms mo ma env = o := by
  unfold mMeth
  rw [h0]
  simp only [Rx.bind]
  rw [if_pos hy, h]
  exact (gx_callZ ha hi hn hf).trans ho
theorem gx_meth0 {c : Nat} {φ : List D → Rz} {ms : List Bool} {mo : Mx} {env env1 : Env'} {y : XD} {ds : List D} {is : List Nat} {z : Rz} {o : Rx D} (h0 : mo env = .ok y env1) (hy : isObj' c (deref env1 y) = true) (ha : argsOf env1 ms [y] = some ds) (hi : ioS ms [y] = is) (hn : is.Nodup) (hf : φ ds = z) (ho : zIo z is env1 = o) : mMeth0 c φ ms mo env = o := by
  unfold mMeth0
  rw [h0]
  simp only [Rx.bind]
  rw [if_pos hy]
  exact (gx_callZ ha hi hn hf).trans ho
theorem gx_prop {c : Nat} {φ : List D → Rz} {ms : List Bool} {mo : Mx} {env env1 : Env'} {y : XD} {ds : List D} {is : List Nat} {z : Rz} {o : Rx D} (h0 : mo env = .ok y env1) (hy : isObj' c (deref env1 y) = true) (ha : argsOf env1 ms [y] = some ds) (hi : ioS ms [y] = is) (hn : is.Nodup) (hf : φ ds = z) (ho : (zIo z is env1).nox = o) : mProp c φ ms mo env = o := by
  unfold mProp
  rw [h0]
  simp only [Rx.bind]
  rw [if_pos hy, gx_callZ ha hi hn hf]
  exact ho
theorem gx_ixO {c : Nat} {φ : List D → Rz} {ms : List Bool} {mo mi : Mx} {env env1 env2 : Env'} {x y : XD} {ds : List D} {is : List Nat} {z : Rz} {o : Rx D} (h0 : mo env = .ok x env1) (h1 : mi env1 = .ok y env2) (hy : isObj' c (deref env2 x) = true) (ha : argsOf env2 ms [x, y] = some ds) (hi : ioS ms [x, y] = is) (hn : is.Nodup) (hf : φ ds = z) (ho : zIo z is env2 = o) : mIxO c φ ms mo mi env = o := by
  unfold mIxO
  rw [h0]
  simp only [Rx.bind]
  rw [h1]
  dsimp only
  rw [if_pos hy]
  exact (gx_callZ ha hi hn hf).trans ho
theorem gx_make {c m : Nat} {φ : List D → Rz} {ma : Mxs} {env env1 : Env'} {xs : List XD} {ds : List D} {z : Rz} {o : Rx D} (h : ma env = .ok xs env1) (ha : allD xs = some ds) (hm : ds.length = m) (hf : φ (.obj c [] :: ds) = z) (ho : madeZ env1 z = o) : mMake c m φ ma env = o := by
  unfold mMake
  rw [h]
  simp only [Rx.bind]
  rw [ha]
  dsimp only
  rw [if_pos hm, hf]
  exact ho
theorem gx_methK {c n j : Nat} {φ : List D → Rz} {sh : List Src} {mo : Mx} {ma mk : Mxs} {env env1 env2 env3 : Env'} {y : XD} {xs zs : List XD} {ds : List D} {z : Rz} {o : Rx D} (h0 : mo env = .ok y env1) (hy : isObj' c (deref env1 y) = true) (h : ma env1 = .ok xs env2) (hk : mk env2 = .ok zs env3) (hl : xs.length = n ∧ zs.length = j)
    (ha : argsOf env3 (List.replicate sh.length false) (gS (.inl .non) sh (y :: xs) zs) = some ds) (hi : ioS (List.replicate sh.length false) (gS (.inl .non) sh (y :: xs) zs) = []) (hf : φ ds = z) (ho : zIo z [] env3 = o) : mMethK c n j φ sh mo ma mk env = o := by
  unfold mMethK
  rw [h0]
  simp only [Rx.bind]
  rw [if_pos hy, h]
  dsimp only
  rw [hk]
  dsimp only
  rw [if_pos hl]
  exact (gx_callZ ha hi List.nodup_nil hf).trans ho
theorem gx_methD {c n j : Nat} {φ : List D → Rz} {sh : List Src2} {mo : Mx} {ma mk : Mxs} {env env1 env2 env3 : Env'} {y : XD} {xs zs : List XD} {ds : List D} {z : Rz} {o : Rx D} (h0 : mo env = .ok y env1) (hy : isObj' c (deref env1 y) = true) (h : ma env1 = .ok xs env2) (hk : mk env2 = .ok zs env3) (hl : xs.length = n ∧ zs.length = j)
    (ha : argsOf env3 (List.replicate sh.length false) (gT (.inl .non) (fun k => .inl k.d) sh (y :: xs) zs) = some ds) (hi : ioS (List.replicate sh.length false) (gT (.inl .non) (fun k => .inl k.d) sh (y :: xs) zs) = []) (hf : φ ds = z) (ho : zIo z [] env3 = o) : mMethD c n j φ sh mo ma mk env = o := by
  unfold mMethD
  rw [h0]
  simp only [Rx.bind]
  rw [if_pos hy, h]
  dsimp only
  rw [hk]
  dsimp only
  rw [if_pos hl]
  exact (gx_callZ ha hi List.nodup_nil hf).trans ho
theorem gx_callK {n j : Nat} {φ : List D → Rz} {sh : List Src} {ma mk : Mxs} {env env2 env3 : Env'} {xs zs : List XD} {ds : List D} {z : Rz} {o : Rx D} (h : ma env = .ok xs env2) (hk : mk env2 = .ok zs env3) (hl : xs.length = n ∧ zs.length = j)
    (ha : argsOf env3 (List.replicate sh.length false) (gS (.inl .non) sh xs zs) = some ds) (hi : ioS (List.replicate sh.length false) (gS (.inl .non) sh xs zs) = []) (hf : φ ds = z) (ho : zIo z [] env3 = o) : mCallK n j φ sh ma mk env = o := by
  unfold mCallK
  rw [h]
  simp only [Rx.bind]
  rw [hk]
  dsimp only
  rw [if_pos hl]
  exact (gx_callZ ha hi List.nodup_nil hf).trans ho
theorem gx_callD {n j : Nat} {φ : List D → Rz} {sh : List Src2} {ma mk : Mxs} {env env2 env3 : Env'} {xs zs : List XD} {ds : List D} {z : Rz} {o : Rx D} (h : ma env = .ok xs env2) (hk : mk env2 = .ok zs env3) (hl : xs.length = n ∧ zs.length = j)
    (ha : argsOf env3 (List.replicate sh.length false) (gT (.inl .non) (fun k => .inl k.d) sh xs zs) = some ds) (hi : ioS (List.replicate sh.length false) (gT (.inl .non) (fun k => .inl k.d) sh xs zs) = []) (hf : φ ds = z) (ho : zIo z [] env3 = o) : mCallD n j φ sh ma mk env = o := by
  unfold mCallD
  rw [h]
  simp only [Rx.bind]
  rw [hk]
  dsimp only
  rw [if_pos hl]
  exact (gx_callZ ha hi List.nodup_nil hf).trans ho
/-! what is raised within -/
section
variable {c : Nat} {fs : List (Nat × D)} {env env1 env2 : Env'}
theorem gx_acX {m : Me} {r : Ma} (h : m env = .er c fs env1) : aCons m r env = .er c fs env1 := by
  unfold aCons
  rw [h]
  rfl
theorem gx_acX2 {m : Me} {r : Ma} {x : D} (h : m env = .ok x env1) (h2 : r env1 = .er c fs env2) : aCons m r env = .er c fs env2 := by
  unfold aCons
  rw [h]
  simp only [Rx.bind]
  rw [h2]
theorem gx_lstX {ma : Ma} (h : ma env = .er c fs env1) : mLst ma env = .er c fs env1 := by
  unfold mLst
  rw [h]
  rfl
end
/-! truth values -/
theorem gx_tst {m : Me} {env env1 : Env'} {b : Bool} (h : m env = .ok (.bl b) env1) : mTst m env = .ok b env1 := by
  unfold mTst
  rw [h]
  rfl
theorem gx_nt {m : Mt} {env env1 : Env'} {b : Bool} (h : m env = .ok b env1) : tNt m env = .ok (!b) env1 := by
  unfold tNt
  rw [h]
  rfl
theorem gx_an1 {m n : Mt} {env env1 : Env'} {b : Bool} {o : Rx Bool} (h : m env = .ok b env1) (h2 : (if b = true then n env1 else .ok false env1) = o) : tAn m n env = o := by
  unfold tAn
  rw [h]
  exact h2
theorem gx_or1 {m n : Mt} {env env1 : Env'} {b : Bool} {o : Rx Bool} (h : m env = .ok b env1) (h2 : (if b = true then .ok true env1 else n env1) = o) : tOrr m n env = o := by
  unfold tOrr
  rw [h]
  exact h2
theorem gx_van {m n : Me} {env env1 : Env'} {b : Bool} {o : Rx D} (h : m env = .ok (.bl b) env1) (h2 : (if b = true then n env1 else .ok (.bl false) env1) = o) : vAn m n env = o := by
  unfold vAn
  rw [h]
  cases b
  · exact h2
  · exact h2
theorem gx_vor {m n : Me} {env env1 : Env'} {b : Bool} {o : Rx D} (h : m env = .ok (.bl b) env1) (h2 : (if b = true then .ok (.bl true) env1 else n env1) = o) : vOr m n env = o := by
  unfold vOr
  rw [h]
  cases b
  · exact h2
  · exact h2
theorem gx_vnt {m : Me} {env env1 : Env'} {b : Bool} (h : m env = .ok (.bl b) env1) : vNt m env = .ok (.bl (!b)) env1 := by
  unfold vNt
  rw [h]
  rfl
theorem gx_if {α : Type} {t : Mt} {ma mb : Env' → Rx α} {env env1 : Env'} {b : Bool} {o : Rx α} (h : t env = .ok b env1) (h2 : (if b = true then ma env1 else mb env1) = o) : mIf t ma mb env = o := by
  unfold mIf
  rw [h]
  exact h2
theorem gx_iteT {α : Type} {x y o : α} (h : x = o) : (if true = true then x else y) = o := (if_pos rfl).trans h
theorem gx_iteF {α : Type} {x y o : α} (h : y = o) : (if false = true then x else y) = o := (if_neg Bool.false_ne_true).trans h
theorem gx_iteNT {α : Type} {x y o : α} (h : y = o) : (if (!true) = true then x else y) = o := (if_neg Bool.false_ne_true).trans h
theorem gx_iteNF {α : Type} {x y o : α} (h : x = o) : (if (!false) = true then x else y) = o := (if_pos rfl).trans h
theorem gn_one (i : Nat) : [i].Nodup := List.nodup_cons.mpr ⟨by simp, List.nodup_nil⟩
theorem gcat_l {a b : List D} (h : a.length + b.length ≤ 1000000) : gCat (.lst a) (.lst b) = some (.lst (a ++ b)) := by
  show (if a.length + b.length ≤ sizeLine then some (D.lst (a ++ b)) else none) = _
  exact if_pos (szM h)
theorem gadd_l {a b : List D} (h : a.length + b.length ≤ 1000000) : gAdd (.lst a) (.lst b) = some (.lst (a ++ b)) := by
  show (if a.length + b.length ≤ sizeLine then some (D.lst (a ++ b)) else none) = _
  exact if_pos (szM h)
/-! statements -/
def thn (o : Out) (n : Ms) : Out := match o with
  | .nx e => n e
  | o => o
theorem gs_seq {m n : Ms} {env : Env'} {o o' : Out} (h : m env = o) (h2 : thn o n = o') : sSeq m n env = o' := by
  unfold sSeq
  rw [h]
  exact h2
theorem gs_nx {n : Ms} {e : Env'} {o : Out} (h : n e = o) : thn (.nx e) n = o := h
theorem gs_rt {n : Ms} {e : Env'} {d : D} : thn (.rt d e) n = .rt d e := rfl
theorem gs_er {n : Ms} {e : Env'} {c : Nat} {fs : List (Nat × D)} : thn (.er c fs e) n = .er c fs e := rfl
theorem gs_bk {n : Ms} {e : Env'} : thn (.bk e) n = .bk e := rfl
theorem gs_ct {n : Ms} {e : Env'} : thn (.ct e) n = .ct e := rfl
theorem gs_if {t : Mt} {m n : Ms} {env env1 : Env'} {b : Bool} {o : Out} (h : t env = .ok b env1) (h2 : (if b = true then m env1 else n env1) = o) : sIf t m n env = o := by
  unfold sIf thenS
  rw [h]
  exact h2
theorem gs_nil (env : Env') : sNil env = .nx env := rfl
theorem gs_ret {m : Me} {env env1 : Env'} {d : D} (h : m env = .ok d env1) : sRet m env = .rt d env1 := by
  unfold sRet thenS
  rw [h]
theorem gs_exp {m : Me} {env env1 : Env'} {d : D} (h : m env = .ok d env1) : sExp m env = .nx env1 := by
  unfold sExp thenS
  rw [h]
theorem gs_expX {m : Me} {env env1 : Env'} {c : Nat} {fs : List (Nat × D)} (h : m env = .er c fs env1) : sExp m env = .er c fs env1 := by
  unfold sExp thenS
  rw [h]
theorem gs_retX {m : Me} {env env1 : Env'} {c : Nat} {fs : List (Nat × D)} (h : m env = .er c fs env1) : sRet m env = .er c fs env1 := by
  unfold sRet thenS
  rw [h]
theorem gs_set {m : Me} {env env1 e : Env'} {d : D} {i : Nat} (h : m env = .ok d env1) (hi : Nat.blt i env1.length = true) (he : env1.set i (.dat d) = e) : sSet i m env = .nx e := by
  unfold sSet thenS
  rw [h, ← he]
  exact if_pos (Nat.le_of_ble_eq_true hi)
theorem gs_setO {m : Me} {env env1 e : Env'} {d : D} {i : Nat} (h : m env = .ok d env1) (hi : Nat.blt i env1.length = true) (he : env1.set i (.own d) = e) : sSetO i m env = .nx e := by
  unfold sSetO thenS
  rw [h, ← he]
  exact if_pos (Nat.le_of_ble_eq_true hi)
theorem gs_setM {m : Me} {env env1 e : Env'} {d : D} {i : Nat} (h : m env = .ok d env1) (hi : Nat.blt i env1.length = true) (he : env1.set i (slM d) = e) : sSetM i m env = .nx e := by
  unfold sSetM thenS
  rw [h, ← he]
  exact if_pos (Nat.le_of_ble_eq_true hi)
theorem gs_asg {g : Mg} {m : Me} {env env1 e : Env'} {d : D} (h : m env = .ok d env1) (hg : g d env1 = some e) : sAsg g m env = .nx e := by
  unfold sAsg thenS
  rw [h]
  dsimp only
  rw [hg]
theorem gs_par {is : List Nat} {m : Env' → Rx (List MD)} {env env1 e : Env'} {ds : List MD} (h : m env = .ok ds env1) (hg : setM env1 is ds = some e) : sPar is m env = .nx e := by
  unfold sPar thenS
  rw [h]
  dsimp only
  rw [hg]
theorem gs_app {i : Nat} {me : Me} {env env1 e : Env'} {y y' : Sl} {l0 l : List D} {d : D} (h0 : slotV env i = some (y', .lst l0)) (h : me env = .ok d env1) (h1 : slotV env1 i = some (y, .lst l)) (hl : l.length ≤ 1000000) (he : env1.set i (putSl y (.lst (l ++ [d]))) = e) : sApp i me env = .nx e := by
  unfold sApp thenS
  rw [h0]
  dsimp only
  rw [h]
  dsimp only
  rw [h1, ← he]
  exact if_pos (by rw [PySem.sizeLine_eq]; omega)
theorem gs_put {i j : Nat} {mk me : Me} {env env1 env2 e : Env'} {y y' : Sl} {l0 l : List D} {d : D} {n : Int} (h : me env = .ok d env1) (h0 : slotV env1 i = some (y', .lst l0)) (hk : mk env1 = .ok (.int n) env2) (h1 : slotV env2 i = some (y, .lst l)) (hj : L2.ixN l.length n = some j) (he : env2.set i (putSl y (.lst (l.set j d))) = e) : sPut i mk me env = .nx e := by
  unfold sPut thenS
  rw [h]
  dsimp only
  rw [h0]
  dsimp only
  rw [hk]
  dsimp only
  rw [h1]
  dsimp only
  rw [hj, ← he]
theorem gs_raise {c : Nat} {ks : List Nat} {ma : Ma} {env env1 : Env'} {ds : List D} {fs : List (Nat × D)} (h : ma env = .ok ds env1) (hl : ds.length = ks.length) (hf : (ks.zip ds).reverse = fs) : sRaise c ks ma env = .er c fs env1 := by
  unfold sRaise thenS
  rw [h, ← hf]
  exact if_pos hl
theorem gs_for {mi : Env' → Rx (List D)} {tg : Mg} {body : Ms} {env env1 : Env'} {ds : List D} {o : Out} (h : mi env = .ok ds env1) (h1 : forL tg body ds env1 = o) : sFor mi tg body env = o := by
  unfold sFor thenS
  rw [h]
  exact h1
theorem gs_seqI {me : Me} {env env1 : Env'} {d : D} {ds : List D} (h : me env = .ok d env1) (hd : seqD d = some ds) : iSeq me env = .ok ds env1 := by
  unfold iSeq
  rw [h]
  cases d <;> first | (cases hd; rfl) | (simp [seqD] at hd)
theorem gs_lc {mi : Env' → Rx (List D)} {tg : Mg} {tt : Mt} {me : Me} {vs : List Nat} {env env1 env2 env3 : Env'} {ds acc : List D} (h : mi env = .ok ds env1) (h2 : datAt env1 vs = true) (h3 : lcL tg tt me vs ds [] (wipeE env1 vs) = .ok acc env2) (h4 : backE env1 env2 vs = env3) : mLc mi tg tt me vs env = .ok (.lst acc) env3 := by
  unfold mLc
  rw [h]
  simp only [Rx.bind]
  rw [if_pos h2, h3, ← h4]
theorem gs_irn1 {me : Me} {env env1 : Env'} {m : Int} (h : me env = .ok (.int m) env1) (h0 : 0 ≤ m) (h1 : m ≤ 1000000) : iRn1 me env = .ok (rngD 0 m.toNat) env1 := by
  unfold iRn1
  rw [h]
  simp only [Rx.bind]
  exact if_pos ⟨by omega, by omega⟩
/-! defs -/
theorem run_rt {ms : List Bool} {n : Nat} {m : Ms} {ds os : List D} {e0 e1 : Env'} {d : D} (h0 : startE ms n ds = e0) (h : m e0 = .rt d e1) (h2 : iosE ms e1 = some os) : runF ms n m ds = .ok d os := by
  unfold runF
  rw [h0, h]
  dsimp only
  rw [h2]
theorem run_er {ms : List Bool} {n : Nat} {m : Ms} {ds os : List D} {e0 e1 : Env'} {c : Nat} {fs : List (Nat × D)} (h0 : startE ms n ds = e0) (h : m e0 = .er c fs e1) (h2 : iosE ms e1 = some os) : runF ms n m ds = .er c fs os := by
  unfold runF
  rw [h0, h]
  dsimp only
  rw [h2]
/-! slots, targets -/
theorem ge_set0 {a x : Sl} {l : Env'} : (a :: l).set 0 x = x :: l := rfl
theorem ge_set1 {a x : Sl} {l e : Env'} {i : Nat} (h : l.set i x = e) : (a :: l).set (i + 1) x = a :: e := by rw [List.set_cons_succ, h]
theorem gg_nm {i : Nat} {d : D} {env e : Env'} (hi : Nat.blt i env.length = true) (he : env.set i (.dat d) = e) : gNm i d env = some e := by
  unfold gNm
  rw [if_pos (show i < env.length from Nat.le_of_ble_eq_true hi), he]
theorem gg_nl (env : Env') : gNl [] env = some env := rfl
theorem gg_cn {m : Mg} {r : List D → Env' → Option Env'} {d : D} {ds : List D} {env e1 e : Env'} (h : m d env = some e1) (h2 : r ds e1 = some e) : gCn m r (d :: ds) env = some e := by
  unfold gCn
  dsimp only
  rw [h]
  exact h2
theorem gg_tp {n : Nat} {r : List D → Env' → Option Env'} {d : D} {ds : List D} {env e : Env'} (hd : d = .tup ds) (hn : ds.length = n) (h : r ds env = some e) : gTp n r d env = some e := by
  subst hd
  unfold gTp
  dsimp only
  rw [if_pos hn]
  exact h
theorem ga_nil (env : Env') : argsOf env [] [] = some [] := rfl
theorem ga_inl {env : Env'} {ms : List Bool} {d : D} {xs : List XD} {ds : List D} (h : argsOf env ms xs = some ds) : argsOf env (false :: ms) (.inl d :: xs) = some (d :: ds) := by
  rw [argsOf, h]
  rfl
theorem ga_inr {env : Env'} {ms : List Bool} {i : Nat} {y : Sl} {d : D} {xs : List XD} {ds : List D} (h0 : slotV env i = some (y, d)) (h : argsOf env ms xs = some ds) : argsOf env (true :: ms) (.inr i :: xs) = some (d :: ds) := by
  rw [argsOf, h0]
  dsimp only
  rw [h]
  rfl
theorem gd_nil (env : Env') : derefs env [] = some [] := rfl
theorem gd_cons {env : Env'} {x : XD} {d : D} {xs : List XD} {ds : List D} (h : deref env x = some d) (h2 : derefs env xs = some ds) : derefs env (x :: xs) = some (d :: ds) := by
  rw [derefs, h, h2]
theorem gm_nil (env : Env') : dNil env = .ok [] env := rfl
theorem gm_cons {o : Bool} {m : Me} {r : Env' → Rx (List MD)} {env env1 env2 : Env'} {d : D} {ds : List MD} (h : m env = .ok d env1) (h2 : r env1 = .ok ds env2) : dCons o m r env = .ok ((o, d) :: ds) env2 := by
  unfold dCons
  rw [h]
  simp only [Rx.bind]
  rw [h2]
theorem gm_setN (env : Env') : setM env [] [] = some env := rfl
theorem gm_setF {i : Nat} {is : List Nat} {d : D} {ds : List MD} {env e1 e : Env'} (hi : Nat.blt i env.length = true) (h1 : env.set i (.dat d) = e1) (h : setM e1 is ds = some e) : setM env (i :: is) ((false, d) :: ds) = some e := by
  rw [setM, if_pos (show i < env.length from Nat.le_of_ble_eq_true hi)]
  rw [← h1] at h
  exact h
theorem gm_setT {i : Nat} {is : List Nat} {d : D} {ds : List MD} {env e1 e : Env'} (hi : Nat.blt i env.length = true) (h1 : env.set i (.own d) = e1) (h : setM e1 is ds = some e) : setM env (i :: is) ((true, d) :: ds) = some e := by
  rw [setM, if_pos (show i < env.length from Nat.le_of_ble_eq_true hi)]
  rw [← h1] at h
  exact h
theorem gx_idx {mo : Mx} {ma : Me} {env env1 env2 : Env'} {x : XD} {l : List D} {d r : D} (h : mo env = .ok x env1) (h1 : deref env1 x = some (.lst l)) (h2 : ma env1 = .ok d env2) (h3 : deref env2 x = some (.lst l)) (h4 : gIdx (.lst l) d = some r) : mIdx mo ma env = .ok r env2 := by
  unfold mIdx
  rw [h]
  simp only [Rx.bind]
  rw [h1]
  dsimp only
  rw [h2]
  dsimp only
  rw [h3]
  dsimp only
  rw [h4]
  rfl
theorem gs_enB {me : Me} {env env1 : Env'} {d : D} {l : List D} (h : me env = .ok d env1) (hd : seqD d = some l) : iEnB me env = .ok (enumD l) env1 := by
  unfold iEnB
  rw [h]
  simp only [Rx.bind]
  rw [hd]
theorem gs_zpB {ma mb : Me} {env env1 env2 : Env'} {d d' : D} {l l' : List D} (h : ma env = .ok d env1) (h' : mb env1 = .ok d' env2) (hd : seqD d = some l) (hd' : seqD d' = some l') : iZpB ma mb env = .ok ((l.zip l').map fun z => .tup [z.1, z.2]) env2 := by
  unfold iZpB
  rw [h]
  simp only [Rx.bind]
  rw [h']
  dsimp only
  rw [hd, hd']
/-! loops -/
theorem for_inv {tg : Mg} {body : Ms} (I : Nat → Env' → Prop) : ∀ (ds : List D) (a : Nat) (env : Env'), I a env → (∀ (j : Nat) (d : D) (env : Env'), ds[j]? = some d → I (a + j) env → ∃ e1 e2, tg d env = some e1 ∧ body e1 = .nx e2 ∧ I (a + j + 1) e2) → ∃ e, forL tg body ds env = .nx e ∧ I (a + ds.length) e
  | [], a, env, h, _ => ⟨env, rfl, h⟩
  | d :: ds, a, env, h, st => by
    obtain ⟨e1, e2, h1, h2, h3⟩ := st 0 d env rfl h
    obtain ⟨e, h4, h5⟩ := for_inv I ds (a + 1) e2 h3 fun j d' env' hd hi => by
      obtain ⟨e1, e2, g1, g2, g3⟩ := st (j + 1) d' env' (by simpa using hd) (by rw [show a + (j + 1) = a + 1 + j by omega]; exact hi)
      exact ⟨e1, e2, g1, g2, by rw [show a + 1 + j + 1 = a + (j + 1) + 1 by omega]; exact g3⟩
    refine ⟨e, ?_, by rw [List.length_cons, show a + (ds.length + 1) = a + 1 + ds.length by omega]; exact h5⟩
    rw [forL, h1]
    dsimp only
    rw [h2]
    exact h4
theorem lc_fil {tg : Mg} {tt : Mt} {me : Me} {vs : List Nat} {env : Env'} {p : D → Bool} : ∀ (ds acc : List D), acc.length + ds.length < 1000000 → (∀ d ∈ ds, ∃ e1, tg d env = some e1 ∧ tt e1 = .ok (p d) e1 ∧ me e1 = .ok d e1 ∧ wipeE e1 vs = env) → lcL tg tt me vs ds acc env = .ok (acc ++ ds.filter p) env
  | [], acc, _, _ => by simp [lcL]
  | d :: ds, acc, hl, h => by
    obtain ⟨e1, h1, h2, h3, h4⟩ := h d List.mem_cons_self
    have z : acc.length < sizeLine := by rw [PySem.sizeLine_eq]; simp at hl; omega
    rw [lcL, h1]
    by_cases q : p d = true
    · have ih := lc_fil ds (acc ++ [d]) (by simp at hl ⊢; omega) fun x hx => h x (List.mem_cons_of_mem _ hx)
      simp only [h2, q, h3, if_pos z, h4]
      rw [ih]
      simp [List.filter_cons, q]
    · have ih := lc_fil ds acc (by simp at hl ⊢; omega) fun x hx => h x (List.mem_cons_of_mem _ hx)
      have q' : p d = false := by simpa using q
      simp only [h2, q', h4]
      rw [ih]
      simp [List.filter_cons, q']
end Pu

/-! # Pu68 -/
namespace Pu
open PySem Tc
/-! # small data: repr tells it -/
def big : Nat := 10 ^ 38
mutual
/-- depth at most k, weight at most w -/
inductive Sm : Nat → Nat → D → Prop
  | non : Sm 0 0 .non
  | bl (b : Bool) : Sm 0 0 (.bl b)
  | int {i : Int} (h : i.natAbs < big) : Sm 0 128 (.int i)
  | str {s : Str} (h : PyData.strOk s = true) {n : Nat} (l : s.cps.size ≤ n) : Sm 0 n (.str s)
  | lst {k w : Nat} {ds : List D} (h : SmA k w ds) : Sm (k + 1) w (.lst ds)
  | tup {k w : Nat} {ds : List D} (h : SmA k w ds) : Sm (k + 1) w (.tup ds)
  | ctp {k w : Nat} {ds : List D} (h : SmA k w ds) : Sm (k + 1) w (.ctp ds)
  | dct : Sm 1 0 (.dct [])
inductive SmA : Nat → Nat → List D → Prop
  | nil : SmA 0 0 []
  | cons {k j w v : Nat} {d : D} {ds : List D} (h : Sm j w d) (r : SmA k v ds) : SmA (max j k) (w + 1 + v) (d :: ds)
end
theorem big_lt : big < 2 ^ 127 := by decide
theorem log_big {i : Int} (h : i.natAbs < big) : i.natAbs.log2 < 127 := by
  by_cases h0 : i.natAbs = 0
  · rw [h0]
    decide
  · rw [Nat.log2_lt h0]
    exact Nat.lt_trans h big_lt
theorem ok_chars {x : Str} (h : PyData.strOk x = true) : (x.cps.toList.all fun c => decide (c < 16 ^ 8)) = true := by
  have h0 : x.cps.all (· < 0x110000) = true := h
  rw [List.all_eq_true]
  intro c hcm
  have := (Array.all_eq_true_iff_forall_mem.mp h0) c (Array.mem_toList_iff.mp hcm)
  have h2 : c < 0x110000 := by simpa using this
  have e : (16 : Nat) ^ 8 = 4294967296 := by decide
  rw [decide_eq_true_eq]
  omega
/-- what is known of it -/
structure SmP (k w : Nat) (p : PyData) : Prop where
  sh : p.showable = true
  de : p.depth ≤ k
  we : p.weight ≤ w
  le : p.leavesShort 40 = true
mutual
theorem Sm.py : ∀ {k w : Nat} {d : D}, Sm k w d → ∃ p, toPyE d = some p ∧ SmP k w p
  | _, _, _, .non => ⟨.none, by simp [toPyE], by simp [PyData.showable], by simp [PyData.depth], by simp [PyData.weight], by simp [PyData.leavesShort]⟩
  | _, _, _, .bl b => ⟨.bool b, by simp [toPyE], by simp [PyData.showable], by simp [PyData.depth], by simp [PyData.weight], by simp [PyData.leavesShort]⟩
  | _, _, _, .int (i := i) h => ⟨.int i, by simp [toPyE], by
      have := log_big h
      rw [PyData.showable, decide_eq_true_eq]
      omega, by simp [PyData.depth], by
      have := log_big h
      rw [PyData.weight]
      split <;> omega, by
      have e := int_text_length_le10 (k := 38) (by decide) h
      have e2 : (PyData.shown (.int i)).length = (toString i).length := by
        show (Str.ofString (toString i)).length = _
        exact ofString_length _
      rw [PyData.leavesShort, decide_eq_true_eq]
      omega⟩
  | _, _, _, .str (s := s) h l => ⟨.str s, by simp [toPyE], by simp [PyData.showable], by simp [PyData.depth], by rw [PyData.weight]; exact l, by rw [PyData.leavesShort]; exact ok_chars h⟩
  | _, _, _, .lst (ds := ds) h => by
    obtain ⟨ps, e, h1, h2, h3, h4⟩ := SmA.py h
    exact ⟨.list ps, by simp [toPyE, e], by rw [PyData.showable]; exact h1, by rw [PyData.depth]; omega, by rw [PyData.weight]; exact h3, by rw [PyData.leavesShort]; exact h4⟩
  | _, _, _, .tup (ds := ds) h => by
    obtain ⟨ps, e, h1, h2, h3, h4⟩ := SmA.py h
    exact ⟨.tuple ps, by simp [toPyE, e], by rw [PyData.showable]; exact h1, by rw [PyData.depth]; omega, by rw [PyData.weight]; exact h3, by rw [PyData.leavesShort]; exact h4⟩
  | _, _, _, .ctp (ds := ds) h => by
    obtain ⟨ps, e, h1, h2, h3, h4⟩ := SmA.py h
    exact ⟨.tuple ps, by simp [toPyE, e], by rw [PyData.showable]; exact h1, by rw [PyData.depth]; omega, by rw [PyData.weight]; exact h3, by rw [PyData.leavesShort]; exact h4⟩
  | _, _, _, .dct => ⟨.dict [], by simp [toPyE], by simp [PyData.showable, PyData.showableKv], by simp [PyData.depth, PyData.depthKv], by simp [PyData.weight, PyData.weightKv], by simp [PyData.leavesShort, PyData.leavesShortKv]⟩
theorem SmA.py : ∀ {k w : Nat} {ds : List D}, SmA k w ds → ∃ ps, toPyEA ds = some ps ∧ PyData.showableAll ps = true ∧ PyData.depthAll ps ≤ k ∧ PyData.weightAll ps ≤ w ∧ PyData.leavesShortAll 40 ps = true
  | _, _, _, .nil => ⟨[], by simp [toPyEA], by simp [PyData.showableAll], by simp [PyData.depthAll], by simp [PyData.weightAll], by simp [PyData.leavesShortAll]⟩
  | _, _, _, .cons (d := d) (ds := ds) h r => by
    obtain ⟨p, e, q⟩ := Sm.py h
    obtain ⟨ps, e2, h1, h2, h3, h4⟩ := SmA.py r
    refine ⟨p :: ps, by simp [toPyEA, e, e2], by rw [PyData.showableAll, q.sh, h1]; rfl, ?_, ?_, by rw [PyData.leavesShortAll, q.le, h4]; rfl⟩
    · have := q.de
      rw [PyData.depthAll]
      omega
    · have := q.we
      rw [PyData.weightAll]
      omega
end
theorem SmP.line {k w : Nat} {p : PyData} (h : SmP k w p) (hw : w ≤ 300000) : p.shown.length ≤ sizeLine := by
  have e := PyData.shown_le 40 (by decide) p h.le
  have e2 := h.we
  rw [PySem.sizeLine_eq]
  have : (40 + 2) * p.weight ≤ 42 * 300000 := Nat.mul_le_mul (by decide) (by omega)
  omega
theorem Sm.repr {k w : Nat} {d : D} (h : Sm k w d) (hr : isRef d = true) (hk : k ≤ 8) (hw : w ≤ 300000) : ∃ s, gReprE [d] = some (.str s) := by
  obtain ⟨p, e, q⟩ := h.py
  refine ⟨p.shown, ?_⟩
  cases d <;> first
    | exact absurd hr Bool.false_ne_true
    | (unfold gReprE
       simp only [e]
       exact if_pos ⟨rfl, q.sh, Nat.le_trans q.de hk, q.line hw⟩)
theorem neS_same (s : Str) : gNeS (.str s) (.str s) = some (.bl false) := by simp [gNeS]
theorem SmA.all {k w : Nat} : ∀ {ds : List D}, (∀ d ∈ ds, ∃ j v, Sm j v d ∧ j ≤ k ∧ v ≤ w) → ∃ j, j ≤ k ∧ ∃ v, v ≤ (w + 1) * ds.length ∧ SmA j v ds
  | [], _ => ⟨0, Nat.zero_le _, 0, Nat.zero_le _, .nil⟩
  | d :: ds, h => by
    obtain ⟨j, v, s, h1, h2⟩ := h d List.mem_cons_self
    obtain ⟨j2, h3, v2, h4, s2⟩ := SmA.all (ds := ds) fun x m => h x (List.mem_cons_of_mem _ m)
    refine ⟨max j j2, by omega, v + 1 + v2, ?_, .cons s s2⟩
    rw [List.length_cons, Nat.mul_succ]
    omega
end Pu

/-! # Pu69 -/
namespace Pu
open PySem PySem.Spec PyProof.Rows L2 Tc
/-! # comprehensions of two clauses -/
def lcL2 (tg : Mg) (tt : Mt) (mi1 : Env' → Rx (List D)) (tg1 : Mg) (tt1 : Mt) (me : Me) (vs vs1 : List Nat) : List D → List D → Env' → Rx (List D)
  | [], acc, env => .ok acc env
  | d :: ds, acc, env => match tg d env with
    | none => .no
    | some e1 => match tt e1 with
      | .ok true e2 => match mi1 e2 with
        | .ok ds1 e3 => match lcL tg1 tt1 me vs1 ds1 acc (wipeE e3 vs1) with
          | .ok acc1 e4 => lcL2 tg tt mi1 tg1 tt1 me vs vs1 ds acc1 (wipeE e4 vs)
          | _ => .no
        | _ => .no
      | .ok false e2 => lcL2 tg tt mi1 tg1 tt1 me vs vs1 ds acc (wipeE e2 vs)
      | _ => .no
def mLc2 (mi : Env' → Rx (List D)) (tg : Mg) (tt : Mt) (mi1 : Env' → Rx (List D)) (tg1 : Mg) (tt1 : Mt) (me : Me) (vs vs1 : List Nat) : Me := fun env => (mi env).bind fun ds env1 => if datAt env1 vs = true then
  (lcL2 tg tt mi1 tg1 tt1 me vs vs1 ds [] (wipeE env1 vs)).bind fun acc env2 => .ok (.lst acc) (backE env1 env2 vs) else .no
section
variable {L : Lay} {E : L2.St → XK} {rm : RM} {X : Cx} {e elt tg iter tg1 iter1 : Expr} {ifs ifs1 : List Expr} {scope : Scope} {own : List (Str × Nat)} {pos spos py : Pos}
abbrev IgOk (L : Lay) (g : TG) (mg : Mg) (vs : List Nat) : Prop := ∀ (Z : Hp) (σ : L2.St) (env : Env') (F H : Hp) (v : V) (d : D) (env' : Env') (Q : L2.St → Hp → Prop), Ok L Z F H σ env → Rep L F v d → mg d env = some env' →
    (∀ σ', Go L Z F H σ env F H σ' env' → σ'.length = σ.length → (∀ j, j ∉ vs → σ'[j]? = σ[j]?) → Q σ' H) → g v σ H Q
theorem lc_inner {Z : Hp} {J : It} {g : TG} {tt : TT} {te : TE} {mg : Mg} {mt : Mt} {me : Me} {vs : List Nat} {σ : L2.St} {D0 : Addr} {Nx : Hp → Prop} {Fb Hb F4 : Hp} {σb : L2.St} {eb e4 : Env'} {ds acc1 : List D} (cig : IgOk L g mg vs) (cit : Im L EF rBool tt mt) (cie : Im L EF (rDat L) te me) (was : Hb D0 = none) (wk : Walk L F4 J ds)
    (fin : ∀ (F' H' : Hp) (vsD : List V), Go L Z Fb Hb σb eb F' H' (wipe σ vs) e4 → F' D0 = none → (∀ i, ¬ Mu (wipe σ vs) e4 i D0) → H' D0 = some (.lst vsD) → RepA L F' vsD acc1 → Nx H')
    {H4 : Hp} {env4 : Env'} {vsD0 : List V} {acc0 : List D} (g0 : Go L Z Fb Hb σb eb F4 H4 (wipe σ vs) env4) (nf : F4 D0 = none) (nm : ∀ i, ¬ Mu (wipe σ vs) env4 i D0) (hD : H4 D0 = some (.lst vsD0)) (ra : RepA L F4 vsD0 acc0) (hl : lcL mg mt me vs ds acc0 env4 = .ok acc1 e4) :
    ∃ W1 : Nat → Nat → Hp → Prop, (∃ m, W1 0 m H4) ∧ ∀ j k H, W1 j k H →
      (J.stop j H ∧ Nx H) ∨ (J.go j H ∧ ∃ Nx1 : Hp → Prop, (∀ H', Nx1 H' → ∃ k', k' < k ∧ W1 (j + 1) k' H') ∧ ∀ x H', J.yld j H x H' → g x (wipe σ vs) H' fun σ3 H5 => wipe σ3 vs = wipe σ vs ∧ tt σ3 H5 fun b H6 =>
        if b = true then te σ3 H6 fun y H7 => ∃ acc, H7 D0 = some (.lst acc) ∧ acc.length < sizeLine ∧ Nx1 (upd H7 D0 (.lst (acc ++ [y]))) else Nx1 H6) := by
  refine ⟨fun i m H' => m = ds.length - i ∧ i ≤ ds.length ∧ ∃ env' F' vsD acc, Same F4 F' ∧ Go L Z Fb Hb σb eb F' H' (wipe σ vs) env' ∧ F' D0 = none ∧ (∀ i, ¬ Mu (wipe σ vs) env' i D0) ∧ H' D0 = some (.lst vsD) ∧ RepA L F' vsD acc ∧ lcL mg mt me vs (ds.drop i) acc env' = .ok acc1 e4,
    ⟨ds.length, by simp, Nat.zero_le _, env4, F4, vsD0, acc0, Same.refl _, g0, nf, nm, hD, ra, by simpa using hl⟩, ?_⟩
  rintro i m H' ⟨rfl, hi, env', F', vsD, acc, s4, g4, nF', nm', hD', ra, h⟩
  obtain ⟨wi1, wi2⟩ := wk F' H' s4 g4.ok.fh
  by_cases hlt : i < ds.length
  · obtain ⟨go, yl⟩ := wi1 i ds[i] (List.getElem?_eq_getElem hlt)
    refine .inr ⟨go, fun H3 => ds.length - (i + 1) = ds.length - (i + 1) ∧ i + 1 ≤ ds.length ∧ ∃ env' F' vsD acc, Same F4 F' ∧ Go L Z Fb Hb σb eb F' H3 (wipe σ vs) env' ∧ F' D0 = none ∧ (∀ i, ¬ Mu (wipe σ vs) env' i D0) ∧ H3 D0 = some (.lst vsD) ∧ RepA L F' vsD acc ∧ lcL mg mt me vs (ds.drop (i + 1)) acc env' = .ok acc1 e4,
      fun H3 w => ⟨ds.length - (i + 1), by omega, w⟩, fun x H'' y => ?_⟩
    obtain ⟨F'', nu⟩ := yl x H'' y
    obtain ⟨g5, rx⟩ := nu.go g4.ok
    have ed : ds.drop i = ds[i] :: ds.drop (i + 1) := List.drop_eq_getElem_cons hlt
    rw [ed, lcL] at h
    cases q : mg ds[i] env' with
    | none => rw [q] at h; cases h
    | some e1 =>
      rw [q] at h
      try simp only at h
      refine cig Z (wipe σ vs) env' F'' H'' x ds[i] e1 _ g5.ok rx q fun σ4 g6 l4 n6 => ?_
      have hw : wipe σ4 vs = wipe σ vs := by
        rw [wipe_wipe (wipe σ vs) σ4 vs l4 n6]
        exact wipe_wipe σ (wipe σ vs) vs (wipe_length σ vs) fun j hj => by rw [wipe_get, if_neg (fun z => hj z.1)]
      refine ⟨hw, ?_⟩
      have g7 := (g4.trans g5).trans g6
      have step : ∀ {F7 H7 F8 H8 : Hp} {σ7 : L2.St} {e7 e8 : Env'}, (H7 D0 = some (.lst vsD)) → F7 D0 = none → (∀ i, ¬ Mu σ7 e7 i D0) → Go L Z F7 H7 σ7 e7 F8 H8 σ7 e8 → H8 D0 = some (.lst vsD) ∧ F8 D0 = none ∧ ∀ i, ¬ Mu σ7 e8 i D0 := fun {F7 H7 F8 H8 σ7 e7 e8} a b c g => by
        refine ⟨g.kp _ _ a (.inr fun _ z => nomatch z) c, by rw [g.fr _ _ a (.inr fun _ z => nomatch z) c]; exact b, fun i m => ?_⟩
        rcases g.mm i D0 m with ⟨j, m'⟩ | z
        · exact c j m'
        · exact (cut_not z a (.inr fun _ z => nomatch z)).elim
      have d5 : H'' D0 = some (.lst vsD) := g5.kp _ _ hD' (.inr fun _ z => nomatch z) nm'
      have f5 : F'' D0 = none := by rw [g5.fr _ _ hD' (.inr fun _ z => nomatch z) nm']; exact nF'
      have m6 : ∀ i, ¬ Mu σ4 e1 i D0 := fun i m => by
        rcases (g5.trans g6).mm i D0 m with ⟨j, m'⟩ | z
        · exact nm' j m'
        · exact (cut_not z hD' (.inr fun _ z => nomatch z)).elim
      refine cit Z σ4 e1 F'' H'' _ g6.ok ?_
      cases q2 : mt e1 with
      | no => rw [q2] at h; cases h
      | er c fs e => rw [q2] at h; cases h
      | ok b e2 =>
        rw [q2] at h
        try simp only at h
        intro bv F8 H8 g8 rb
        have rb : bv = b := rb
        subst rb
        obtain ⟨d8, f8, m8⟩ := step d5 f5 m6 g8
        cases bv with
        | false =>
          have g9 := Go.wipe g8.ok vs
          rw [hw] at g9
          refine iteF ⟨rfl, hlt, wipeE e2 vs, F8, vsD, acc, s4.trans ((g5.ff.trans g6.ff).trans g8.ff), (g7.trans g8).trans g9, f8, fun i m => ?_, d8, ra.mono ((g5.ff.trans g6.ff).trans g8.ff), h⟩
          rcases g9.mm i D0 m with ⟨j, m'⟩ | z
          · exact m8 j m'
          · exact (cut_not z d8 (.inr fun _ z => nomatch z)).elim
        | true =>
          refine iteT (cie Z σ4 e2 F8 H8 _ g8.ok ?_)
          try simp only at h
          cases q3 : me e2 with
          | no => rw [q3] at h; cases h
          | er c fs e => rw [q3] at h; cases h
          | ok y e3 =>
            rw [q3] at h
            try simp only at h
            intro yv F9 H9 g9 ry
            obtain ⟨d9, f9, m9⟩ := step d8 f8 m8 g9
            by_cases hz : acc.length < sizeLine
            case neg => rw [if_neg hz] at h; cases h
            rw [if_pos hz] at h
            have g10 := Go.wipe g9.ok vs
            rw [hw] at g10
            have m10 : ∀ i, ¬ Mu (wipe σ vs) (wipeE e3 vs) i D0 := fun i m => by
              rcases g10.mm i D0 m with ⟨j, m'⟩ | z
              · exact m9 j m'
              · exact (cut_not z d9 (.inr fun _ z => nomatch z)).elim
            have ss := ((g5.ff.trans g6.ff).trans g8.ff).trans g9.ff
            have ra9 := ra.mono ss
            exact ⟨vsD, d9, by rw [ra.length]; exact hz, rfl, hlt, wipeE e3 vs, F9, vsD ++ [yv], acc ++ [y], s4.trans ss, Go.side (((g7.trans g8).trans g9).trans g10) _ (.inr ⟨_, d9⟩) was f9 m10, f9, m10, upd_same, ra9.append (.cons ry .nil), h⟩
  · have e : i = ds.length := by omega
    subst e
    rw [List.drop_length, lcL] at h
    cases h
    exact .inl ⟨wi2, fin F' H' vsD g4 nF' nm' hD' ra⟩
theorem lc2_in {mi mi1 : Env' → Rx (List D)} {mg mg1 : Mg} {mt mt1 : Mt} {me : Me} {wi wi1 : TI} {g g1 : TG} {tt tt1 : TT} {te : TE} {vs vs1 : List Nat} (ii : Im L E (rWalk L) wi mi) (cig : IgOk L g mg vs) (cit : Im L EF rBool tt mt) (ii1 : Im L EF (rWalk L) wi1 mi1) (cig1 : IgOk L g1 mg1 vs1) (cit1 : Im L EF rBool tt1 mt1) (cie : Im L EF (rDat L) te me) (hv : ∀ i ∈ vs1, i ∈ vs) :
    Im L E (rOwn L) (tLc2 wi g tt wi1 g1 tt1 te vs vs1) (mLc2 mi mg mt mi1 mg1 mt1 me vs vs1) := fun Z σ env F H Q k h => by
  refine ii Z σ env F H _ k (Post.bindAt (Go.refl k) h fun ds env1 J F1 H1 ga wk h => ?_)
  have wk : Walk L F1 J ds := wk
  intro D0 hD
  by_cases hd : datAt env1 vs = true
  case neg => rw [if_neg hd] at h; exact h.elim
  rw [if_pos hd] at h
  have nF1 : F1 D0 = none := ga.ok.free hD
  have g0 := Go.wipe ga.ok vs
  have nmD : ∀ i, ¬ Mu (wipe σ vs) (wipeE env1 vs) i D0 := fun i => g0.ok.nomu (cut_none hD) i
  refine ⟨fun i m H' => m = ds.length - i ∧ i ≤ ds.length ∧ ∃ env' F' vsD acc, Go L Z F1 H1 (wipe σ vs) (wipeE env1 vs) F' H' (wipe σ vs) env' ∧ F' D0 = none ∧ (∀ i, ¬ Mu (wipe σ vs) env' i D0) ∧ H' D0 = some (.lst vsD) ∧ RepA L F' vsD acc ∧
      Post L Z E σ env F H (rOwn L) Q ((lcL2 mg mt mi1 mg1 mt1 me vs vs1 (ds.drop i) acc env').bind fun acc env2 => .ok (.lst acc) (backE env1 env2 vs)),
    ⟨ds.length, by simp, Nat.zero_le _, wipeE env1 vs, F1, [], [], Go.side (Go.refl g0.ok) _ (.inl hD) hD nF1 nmD, nF1, nmD, upd_same, .nil, by simpa using h⟩, ?_⟩
  rintro i m H' ⟨rfl, hi, env', F', vsD, acc, g4, nF', nm', hD', ra, h⟩
  obtain ⟨w1, w2⟩ := wk F' H' g4.ff g4.ok.fh
  by_cases hlt : i < ds.length
  · obtain ⟨go, yl⟩ := w1 i ds[i] (List.getElem?_eq_getElem hlt)
    refine .inr ⟨go, fun H3 => ds.length - (i + 1) = ds.length - (i + 1) ∧ i + 1 ≤ ds.length ∧ ∃ env' F' vsD acc, Go L Z F1 H1 (wipe σ vs) (wipeE env1 vs) F' H3 (wipe σ vs) env' ∧ F' D0 = none ∧ (∀ i, ¬ Mu (wipe σ vs) env' i D0) ∧ H3 D0 = some (.lst vsD) ∧ RepA L F' vsD acc ∧
      Post L Z E σ env F H (rOwn L) Q ((lcL2 mg mt mi1 mg1 mt1 me vs vs1 (ds.drop (i + 1)) acc env').bind fun acc env2 => .ok (.lst acc) (backE env1 env2 vs)),
      fun H3 w => ⟨ds.length - (i + 1), by omega, w⟩, fun x H'' y => ?_⟩
    obtain ⟨F'', nu⟩ := yl x H'' y
    obtain ⟨g5, rx⟩ := nu.go g4.ok
    have ed : ds.drop i = ds[i] :: ds.drop (i + 1) := List.drop_eq_getElem_cons hlt
    rw [ed, lcL2] at h
    cases q : mg ds[i] env' with
    | none => rw [q] at h; exact h.elim
    | some e1 =>
      rw [q] at h
      try simp only at h
      refine cig Z (wipe σ vs) env' F'' H'' x ds[i] e1 _ g5.ok rx q fun σ4 g6 l4 n6 => ?_
      have hw : wipe σ4 vs = wipe σ vs := by
        rw [wipe_wipe (wipe σ vs) σ4 vs l4 n6]
        exact wipe_wipe σ (wipe σ vs) vs (wipe_length σ vs) fun j hj => by rw [wipe_get, if_neg (fun z => hj z.1)]
      refine ⟨hw, ?_⟩
      have g7 := (g4.trans g5).trans g6
      have step : ∀ {F7 H7 F8 H8 : Hp} {σ7 : L2.St} {e7 e8 : Env'}, (H7 D0 = some (.lst vsD)) → F7 D0 = none → (∀ i, ¬ Mu σ7 e7 i D0) → Go L Z F7 H7 σ7 e7 F8 H8 σ7 e8 → H8 D0 = some (.lst vsD) ∧ F8 D0 = none ∧ ∀ i, ¬ Mu σ7 e8 i D0 := fun {F7 H7 F8 H8 σ7 e7 e8} a b c g => by
        refine ⟨g.kp _ _ a (.inr fun _ z => nomatch z) c, by rw [g.fr _ _ a (.inr fun _ z => nomatch z) c]; exact b, fun i m => ?_⟩
        rcases g.mm i D0 m with ⟨j, m'⟩ | z
        · exact c j m'
        · exact (cut_not z a (.inr fun _ z => nomatch z)).elim
      have d5 : H'' D0 = some (.lst vsD) := g5.kp _ _ hD' (.inr fun _ z => nomatch z) nm'
      have f5 : F'' D0 = none := by rw [g5.fr _ _ hD' (.inr fun _ z => nomatch z) nm']; exact nF'
      have m6 : ∀ i, ¬ Mu σ4 e1 i D0 := fun i m => by
        rcases (g5.trans g6).mm i D0 m with ⟨j, m'⟩ | z
        · exact nm' j m'
        · exact (cut_not z hD' (.inr fun _ z => nomatch z)).elim
      refine cit Z σ4 e1 F'' H'' _ g6.ok ?_
      cases q2 : mt e1 with
      | no => rw [q2] at h; exact h.elim
      | er c fs e => rw [q2] at h; exact h.elim
      | ok b e2 =>
        rw [q2] at h
        try simp only at h
        intro bv F8 H8 g8 rb
        have rb : bv = b := rb
        subst rb
        obtain ⟨d8, f8, m8⟩ := step d5 f5 m6 g8
        cases bv with
        | false =>
          have g9 := Go.wipe g8.ok vs
          rw [hw] at g9
          refine iteF ⟨rfl, hlt, wipeE e2 vs, F8, vsD, acc, (g7.trans g8).trans g9, f8, fun i m => ?_, d8, ra.mono ((g5.ff.trans g6.ff).trans g8.ff), h⟩
          rcases g9.mm i D0 m with ⟨j, m'⟩ | z
          · exact m8 j m'
          · exact (cut_not z d8 (.inr fun _ z => nomatch z)).elim
        | true =>
          refine iteT (ii1 Z σ4 e2 F8 H8 _ g8.ok ?_)
          try simp only at h
          cases q3 : mi1 e2 with
          | no => rw [q3] at h; exact h.elim
          | er c fs e => rw [q3] at h; exact h.elim
          | ok ds1 e3 =>
            rw [q3] at h
            try simp only at h
            intro J1 F9 H9 g9 wk1
            have wk1 : Walk L F9 J1 ds1 := wk1
            obtain ⟨d9, f9, m9⟩ := step d8 f8 m8 g9
            cases q4 : lcL mg1 mt1 me vs1 ds1 acc (wipeE e3 vs1) with
            | no => rw [q4] at h; exact h.elim
            | er c fs e => rw [q4] at h; exact h.elim
            | ok acc1 e4 =>
              rw [q4] at h
              try simp only at h
              have g10 := Go.wipe g9.ok vs1
              have m10 : ∀ i, ¬ Mu (wipe σ4 vs1) (wipeE e3 vs1) i D0 := fun i m => by
                rcases g10.mm i D0 m with ⟨j, m'⟩ | z
                · exact m9 j m'
                · exact (cut_not z d9 (.inr fun _ z => nomatch z)).elim
              refine lc_inner (σ := σ4) cig1 cit1 cie hD wk1 (fun F' H' vsD' gg nf' nmm hDD raa => ?_) (((g7.trans g8).trans g9).trans g10) f9 m10 d9 (ra.mono (((g5.ff.trans g6.ff).trans g8.ff).trans g9.ff)) q4
              have gw := Go.wipe gg.ok vs
              have hw2 : wipe (wipe σ4 vs1) vs = wipe σ vs := by
                rw [← hw]
                exact wipe_wipe σ4 (wipe σ4 vs1) vs (wipe_length σ4 vs1) fun j hj => by rw [wipe_get, if_neg (fun z => hj (hv j z.1))]
              rw [hw2] at gw
              refine ⟨rfl, hlt, wipeE e4 vs, F', vsD', acc1, gg.trans gw, nf', fun i m => ?_, hDD, raa, h⟩
              rcases gw.mm i D0 m with ⟨j, m'⟩ | z
              · exact nmm j m'
              · exact (cut_not z hDD (.inr fun _ z => nomatch z)).elim
  · have e : i = ds.length := by omega
    subst e
    rw [List.drop_length, lcL2] at h
    refine .inl ⟨w2, ?_⟩
    have gb := Go.back ga.ok hd g4
    refine h (.ref D0) F' H' (ga.trans gb) ⟨D0, rfl, ga.dn (cut_none hD), nF', ⟨vsD, hD', ra⟩, fun i m => ?_⟩
    rcases gb.mm i D0 m with ⟨j, m'⟩ | z
    · exact ga.ok.nomu (cut_none hD) j m'
    · obtain ⟨h1, h2⟩ := m
      rw [backE_get] at h2
      by_cases hv : i ∈ vs ∧ i < env'.length
      · rw [if_pos hv] at h2
        have := List.all_eq_true.mp hd i hv.1
        rcases h2 with ⟨d, h2⟩ | ⟨d, h2⟩
        all_goals
          have e0 : env1[i]? = some (env1.getD i .no) := by
            have : i < env1.length := by
              rw [← wipeE_length env1 vs, ← g0.ok.len, g4.ok.len]
              exact hv.2
            rw [List.getElem?_eq_getElem this]
            simp [List.getD, this]
          rw [h2] at e0
          simp [e0] at this
      · rw [if_neg hv] at h2
        have hi2 : i ∉ vs := fun z => hv ⟨z, by rw [← g4.ok.len, wipe_length]; exact (List.getElem?_eq_some_iff.mp h1).1⟩
        exact nm' i ⟨by rw [wipe_get, if_neg (fun z => hi2 z.1)]; exact h1, h2⟩
/-- [elt for tg in iter if .. for tg1 in iter1 if ..] -/
theorem imO_lc2 {mi mi1 : Env' → Rx (List D)} {mg mg1 : Mg} {mt mt1 : Mt} {me : Me} {ts ts1 vs1 : List Nat} (hc : X.calm = true) (hN : X.N.Nodup) (hi : ImI L E X tg iter mi) (ok : BlkOk X.N X.env.scope scope own)
    (hg : ∀ (s : Shared) (H : Hp) (C : Addr) (cl : List (Str × Addr)) (fp : List Addr), ImG L (X.blk s H scope (compEnvC scope cl C X.env) fp) tg ts mg)
    (ht : ∀ (s : Shared) (H : Hp) (C : Addr) (cl : List (Str × Addr)) (fp : List Addr), ImTs L EF (X.blk s H scope (compEnvC scope cl C X.env) fp) ifs mt)
    (hi1 : ∀ (s : Shared) (H : Hp) (C : Addr) (cl : List (Str × Addr)) (fp : List Addr), ImI L EF (X.blk s H scope (compEnvC scope cl C X.env) fp) tg1 iter1 mi1)
    (hg1 : ∀ (s : Shared) (H : Hp) (C : Addr) (cl : List (Str × Addr)) (fp : List Addr), ImG L (X.blk s H scope (compEnvC scope cl C X.env) fp) tg1 ts1 mg1)
    (ht1 : ∀ (s : Shared) (H : Hp) (C : Addr) (cl : List (Str × Addr)) (fp : List Addr), ImTs L EF (X.blk s H scope (compEnvC scope cl C X.env) fp) ifs1 mt1)
    (he : ∀ (s : Shared) (H : Hp) (C : Addr) (cl : List (Str × Addr)) (fp : List Addr), ImE L EF (X.blk s H scope (compEnvC scope cl C X.env) fp) elt me)
    (hts : ∀ j ∈ ts, j ∈ own.map (·.2) := by decide) (hts1 : ∀ j ∈ ts1, j ∈ vs1 := by decide) (hv : ∀ j ∈ vs1, j ∈ own.map (·.2) := by decide) (hs : ∀ x, foldedSetIterable iter X.env x = pure x := by intro _; rfl) (hs1 : ∀ env x, foldedSetIterable iter1 env x = pure x := by intro _ _; rfl) :
    ImO L E X (.ListComp elt [⟨tg, iter, ifs, 0⟩, ⟨tg1, iter1, ifs1, 0⟩] scope pos) (mLc2 mi mg mt mi1 mg1 mt1 me (own.map (·.2)) vs1) := by
  obtain ⟨wi, pi, ii⟩ := hi
  refine ⟨_, pe_lc2 hc hN pi ok hv (fun s H C cl fp => (hg s H C cl fp).can) (fun s H C cl fp => (ht s H C cl fp).can) (fun s H C cl fp => (hi1 s H C cl fp).can) (fun s H C cl fp => (hg1 s H C cl fp).can) (fun s H C cl fp => (ht1 s H C cl fp).can) (fun s H C cl fp => (he s H C cl fp).can) hs hs1, ?_⟩
  exact lc2_in ii (fun Z σ env F H v d env' Q k r e q => ⟨Z, env, F, d, env', k, r, e, fun σ' g l n => q σ' g l fun j hj => n j fun z => hj (hts j z)⟩) can_im can_im (fun Z σ env F H v d env' Q k r e q => ⟨Z, env, F, d, env', k, r, e, fun σ' g l n => q σ' g l fun j hj => n j fun z => hj (hts1 j z)⟩) can_im can_im hv
end
end Pu

/-! # Pu70 -/
namespace Pu
open PySem PySem.Spec PyProof.Rows L2 Tc
/-! # data of any depth in a tuple, the text's own among them -/
section
variable {L : Lay} {X : Cx}
end
end Pu

/-! # Pu71 -/
namespace Pu
open PySem PySem.Spec PyProof.Rows L2 Tc
/-! # dict([(k, v), ..]): keys are texts, no two alike -/
section
variable {L : Lay} {X : Cx}
end
/-! # list(range(a, b, c)), c = 1 or 3 -/
def Ok3 (i j k : Int) : Prop := (k = 1 ∨ k = 3) ∧ (-4000000 ≤ i ∧ i ≤ 4000000) ∧ (-4000000 ≤ j ∧ j ≤ 4000000)
instance (i j k : Int) : Decidable (Ok3 i j k) := by unfold Ok3; infer_instance
section
variable {X : Cx} {a b c : Expr} {ta : TA} {p p1 pos pos1 : Pos}
variable {L : Lay} {E : L2.St → XK} {ma : Mxs}
end
end Pu

/-! # Pu72 -/
namespace Pu
open PySem PySem.Spec PyProof.Rows L2 Tc
/-! # one expression read in two ways: the first one that says something -/
section
variable {L : Lay} {E : L2.St → XK} {X : Cx} {e : Expr} {m1 m2 : Me}
end
/-! # e + o, e a whole number or a truth value -/
section
variable {L : Lay} {E : L2.St → XK} {X : Cx} {C f g0 : Addr} {k : Nat} {fd : FuncData} {ps : List Str} {a b : Expr} {ma mb : Mx} {ms : List Bool} {φ : List D → Rz} {pos : Pos}
end
/-! # x in o, asked as a test -/
section
variable {L : Lay} {E : L2.St → XK} {X : Cx} {C : Addr} {a b : Expr} {ma mb : Mx} {ms : List Bool} {φ : List D → Rz} {pos : Pos}
end
/-! # dicts of one pair in compared lists -/
section
variable {L : Lay} {X : Cx} {n : Nat} {fam : Fam}
variable {E : L2.St → XK} {a b : Expr} {ma mb : Mx} {pos : Pos}
end
end Pu

/-! # Pu73 -/
namespace Pu
open PySem PySem.Spec PyProof.Rows L2 Tc
/-! # a table of the module: whole numbers by whole numbers -/
def tabOk (es : List DictEntry) (t : List (Int × Int)) : Bool :=
  (es.all fun e => match e.key with
    | .int k _ => e.hash == hashInt k
    | _ => false) &&
  t.all fun p => match es.find? (fun e => Value.isInt p.1 e.key) with
    | some e => match e.val with
      | .int v _ => v == p.2
      | _ => false
    | none => false
def KTab (K : PySem.W.Frag) (d : Addr) (t : List (Int × Int)) : Prop := ∃ es n dd sl, K.lookup d = some ⟨.type "dict", dd, .dict es n, sl⟩ ∧ IntKeys es ∧ ∀ p ∈ t, ∃ k, findBy Value.isInt es p.1 = some (.int p.2 k)
theorem ktab_of {K : PySem.W.Frag} {d : Addr} {es : List DictEntry} {t : List (Int × Int)} {n : Nat} {dd : Option Addr} {sl : Array (Option Value)} (l : K.lookup d = some ⟨.type "dict", dd, .dict ⟨es⟩ n, sl⟩) (h : tabOk es t = true) : KTab K d t := by
  unfold tabOk at h
  rw [Bool.and_eq_true, List.all_eq_true, List.all_eq_true] at h
  obtain ⟨h1, h2⟩ := h
  refine ⟨⟨es⟩, n, dd, sl, l, fun e m => ?_, fun p m => ?_⟩
  · have := h1 e (Array.mem_toList_iff.mpr m)
    split at this
    · rename_i k t' he
      exact ⟨k, t', he, eq_of_beq this⟩
    · cases this
  · have := h2 p m
    unfold findBy
    rw [List.find?_toArray]
    split at this
    · rename_i e he
      rw [he]
      split at this
      · rename_i v k hv
        exact ⟨k, by rw [Option.map_some, hv, eq_of_beq this]⟩
      · cases this
    · cases this
def tabAt : List (Int × Int) → Int → Option Int
  | [], _ => none
  | p :: t, i => if p.1 = i then some p.2 else tabAt t i
theorem tabAt_mem : ∀ {t : List (Int × Int)} {i v : Int}, tabAt t i = some v → (i, v) ∈ t
  | p :: t, i, v, h => by
    unfold tabAt at h
    split at h
    · rename_i e
      cases h
      rw [← e]
      exact List.mem_cons_self
    · exact List.mem_cons_of_mem _ (tabAt_mem h)
def gTab (t : List (Int × Int)) : D → Option D
  | .int i => (tabAt t i).map D.int
  | _ => none
section
variable {L : Lay} {E : L2.St → XK} {X : Cx}
def rTab (d : Addr) (t : List (Int × Int)) : R2 := fun x y H Q => ∃ i v, x = .ref d ∧ y = .int i ∧ tabAt t i = some v ∧ Q (.int v) H
theorem ix_ktab {d : Addr} {t : List (Int × Int)} (D : KTab X.K d t) : IxR X (rTab d t) := by
  intro value slice pins s σ H x y v u Q I rx ry h hs
  obtain ⟨i, r, rfl, rfl, e, q⟩ := h
  obtain rfl : v = Value.ref d := rx
  obtain ⟨tk, rfl⟩ := ry
  obtain ⟨es, n, dd, sl, hl, hk, hf⟩ := D
  obtain ⟨k, ek⟩ := hf _ (tabAt_mem e)
  have hm : s.heap.IntMap d (findBy Value.isInt es) := ⟨_, es, n, I.kIn _ _ hl, rfl, rfl, hk, fun _ => rfl⟩
  exact tail_any hm.typeIs slot_dict_getitem.lookup (wpAny_getItem_intMap hm ek ⟨.int r, H, I.tok _, ⟨_, rfl⟩, q⟩) hs
theorem imE_tab {d : Addr} {t : List (Int × Int)} {x : Str} {p pos : Pos} {b : Expr} {mb : Mx} (D : KTab X.K d t) (hm : X.mg x = some (.ref d)) (hb : ImX L E X b mb) (hs : PlainIx b := by exact fun _ _ => rfl) (hg : Gl X x := by rfl) (hd : (x == ("__debug__" : Str)) = false := by decide) :
    ImE L E X (.Subscript (.Name x p) b pos) (mUn (gTab t) mb) := by
  obtain ⟨tb, pb, ib⟩ := hb
  refine ⟨_, pe_ix (ix_ktab D) (pe_glob (v := .ref d) hg hm rfl hd) pb hs, fun Z σ env F H Q k h => ?_⟩
  show tb σ H fun y H2 => rTab d t (.ref d) y H2 Q
  refine ib Z σ env F H _ k (Post.bind h fun y env1 v F1 H1 g1 rv h => ?_)
  cases ex : deref env1 y with
  | none => rw [ex] at h; exact h.elim
  | some dx =>
    rw [ex] at h
    obtain ⟨e, eg, w⟩ := Post.some h
    have tx := RelX.top g1.ok rv ex
    unfold gTab at eg
    split at eg
    · cases tx
      cases ht : tabAt t _ with
      | none => rw [ht] at eg; cases eg
      | some r =>
        rw [ht] at eg
        obtain rfl := Option.some.inj eg
        have n : Nu L F1 H1 F1 H1 (.int r) (.int r) := .here (.int _)
        exact ⟨_, r, rfl, rfl, ht, w _ F1 H1 (n.go g1.ok).1 (n.go g1.ok).2⟩
    · exact nomatch eg
/-! # < and > of any data that compare -/
def nonN : PyData → Bool
  | .none => false
  | _ => true
def gLtD (sw : Bool) (x y : D) : Option D := match toPy x, toPy y with
  | some d, some e => if PySem.W.alike d e = true ∧ nonN d = true ∧ d.depth ≤ 64 then some (.bl (if sw = true then PySem.W.dataLt e d else PySem.W.dataLt d e)) else none
  | _, _ => none
def rLtD (K : PySem.W.Frag) (sw : Bool) : R2 := fun x y H Q => ∃ d e, Dp K H x d ∧ Dp K H y e ∧ PySem.W.alike d e = true ∧ d ≠ .none ∧ d.depth ≤ 64 ∧ Q (.bl (if sw = true then PySem.W.dataLt e d else PySem.W.dataLt d e)) H
theorem op_ltD (hu : X.A.units + 100 < cLine) : OpR X (compareOp .Lt) (rLtD X.K false) := by
  intro pins s σ H x y v u Q I rx ry h
  obtain ⟨d, e, hd, he, a, n, b, q⟩ := h
  obtain ⟨as, r1⟩ := Dp.reads I d x v hd rx
  obtain ⟨bs, r2⟩ := Dp.reads I e y u he ry
  exact PySem.W.lt_data r1 r2 a n (by omega) ⟨.bl _, H, I, rfl, q⟩
theorem op_gtD (hu : X.A.units + 100 < cLine) : OpR X (compareOp .Gt) (rLtD X.K true) := by
  intro pins s σ H x y v u Q I rx ry h
  obtain ⟨d, e, hd, he, a, n, b, q⟩ := h
  obtain ⟨as, r1⟩ := Dp.reads I d x v hd rx
  obtain ⟨bs, r2⟩ := Dp.reads I e y u he ry
  exact PySem.W.gt_data r1 r2 a n (by omega) ⟨.bl _, H, I, rfl, q⟩
theorem od_ofD {op : CmpOp} {sw : Bool} (hK : L.K = X.K) (o : OpR X (compareOp op) (rLtD X.K sw)) : OpD L X (compareOp op) (gLtD sw) := by
  refine ⟨_, o, fun F H x y dx dy d Q s tx ty e w => ?_⟩
  unfold gLtD at e
  split at e
  · rename_i p q e1 e2
    split at e
    · rename_i c
      have e := Option.some.inj e
      subst e
      exact ⟨p, q, hK ▸ tx.dp s e1, hK ▸ ty.dp s e2, c.1, (fun z => by rw [z] at c; exact Bool.false_ne_true c.2.1), c.2.2, w _ F H (.here (.bl _))⟩
    · exact nomatch e
  · exact nomatch e
theorem od_ltD (hK : L.K = X.K) (hu : X.A.units + 100 < cLine) : OpD L X (compareOp .Lt) (gLtD false) := od_ofD hK (op_ltD hu)
theorem od_gtD (hK : L.K = X.K) (hu : X.A.units + 100 < cLine) : OpD L X (compareOp .Gt) (gLtD true) := od_ofD hK (op_gtD hu)
/-! # what is never come to -/
def mDead : Me := fun _ => .no
theorem imE_dead {e : Expr} : ImE L E X e mDead := ⟨fun _ _ _ => False, ⟨fun _ _ _ _ _ _ h => h.elim⟩, fun Z σ env F H Q k h => h.elim⟩
end
end Pu

/-! # T07 -/
namespace Tc
open PySem PySem.Spec PyProof.Rows L2 Pu
def top (i : Nat) : Stmt := PySem.Challenge.pw_threecounts_k07_texts_ordered.main.body.getD i (.Pass ⟨0, 0, 0, 0⟩)
abbrev s_l_bag : Stmt := top 43
theorem sc_l_bag : FnScope ["_law_cell_here"] ["_law_cell_here"] (defScope s_l_bag) := ⟨rfl, rfl, rfl, by decide +kernel, rfl, by decide +kernel, by decide +kernel⟩
abbrev s_l_cell : Stmt := top 42
theorem sc_l_cell : FnScope ["_law_script", "_law_index"] ["_law_script", "_law_index"] (defScope s_l_cell) := ⟨rfl, rfl, rfl, by decide +kernel, rfl, by decide +kernel, by decide +kernel⟩
abbrev s_l_take : Stmt := top 44
theorem sc_l_take : FnScope ["_law_bag_here", "_law_many", "_law_digit", "_law_mixed"] ["_law_bag_here", "_law_many"] (defScope s_l_take) := ⟨rfl, rfl, rfl, by decide +kernel, rfl, by decide +kernel, by decide +kernel⟩
abbrev s_l_char : Stmt := top 45
theorem sc_l_char : FnScope ["_law_bag_here", "_law_edges", "_law_low", "_law_high"] ["_law_bag_here"] (defScope s_l_char) := ⟨rfl, rfl, rfl, by decide +kernel, rfl, by decide +kernel, by decide +kernel⟩
abbrev s_l_chars : Stmt := top 46
theorem sc_l_chars : FnScope ["_law_bag_here", "_law_most", "_law_index"] ["_law_bag_here", "_law_most"] (defScope s_l_chars) := ⟨rfl, rfl, rfl, by decide +kernel, rfl, by decide +kernel, by decide +kernel⟩
abbrev s_is_list : Stmt := top 16
theorem sc_is_list : FnScope ["value"] ["value"] (defScope s_is_list) := ⟨rfl, rfl, rfl, by decide +kernel, rfl, by decide +kernel, by decide +kernel⟩
abbrev s_is_whole : Stmt := top 14
theorem sc_is_whole : FnScope ["value"] ["value"] (defScope s_is_whole) := ⟨rfl, rfl, rfl, by decide +kernel, rfl, by decide +kernel, by decide +kernel⟩
abbrev s_is_integer : Stmt := top 13
theorem sc_is_integer : FnScope ["value", "low", "high"] ["value", "low", "high"] (defScope s_is_integer) := ⟨rfl, rfl, rfl, by decide +kernel, rfl, by decide +kernel, by decide +kernel⟩
abbrev s_is_char : Stmt := top 15
theorem sc_is_char : FnScope ["value"] ["value"] (defScope s_is_char) := ⟨rfl, rfl, rfl, by decide +kernel, rfl, by decide +kernel, by decide +kernel⟩
abbrev s_check_char : Stmt := top 28
theorem sc_check_char : FnScope ["char"] ["char"] (defScope s_check_char) := ⟨rfl, rfl, rfl, by decide +kernel, rfl, by decide +kernel, by decide +kernel⟩
abbrev s_check_chars : Stmt := top 29
theorem sc_check_chars : FnScope ["chars", "item"] ["chars"] (defScope s_check_chars) := ⟨rfl, rfl, rfl, by decide +kernel, rfl, by decide +kernel, by decide +kernel⟩
abbrev s_Text_init : Stmt := inClass (top 36) 0
theorem sc_Text_init : FnScope ["self", "chars"] ["self", "chars"] (defScope s_Text_init) := ⟨rfl, rfl, rfl, by decide +kernel, rfl, by decide +kernel, by decide +kernel⟩
abbrev s_Text_gt : Stmt := inClass (top 36) 16
theorem sc_Text_gt : FnScope ["self", "other"] ["self", "other"] (defScope s_Text_gt) := ⟨rfl, rfl, rfl, by decide +kernel, rfl, by decide +kernel, by decide +kernel⟩
abbrev s_Text_lt : Stmt := inClass (top 36) 15
theorem sc_Text_lt : FnScope ["self", "other"] ["self", "other"] (defScope s_Text_lt) := ⟨rfl, rfl, rfl, by decide +kernel, rfl, by decide +kernel, by decide +kernel⟩
abbrev s_l_sign : Stmt := top 48
theorem sc_l_sign : FnScope ["_law_one", "_law_other"] ["_law_one", "_law_other"] (defScope s_l_sign) := ⟨rfl, rfl, rfl, by decide +kernel, rfl, by decide +kernel, by decide +kernel⟩
abbrev s_is_kind : Stmt := top 18
theorem sc_is_kind : FnScope ["value"] ["value"] (defScope s_is_kind) := ⟨rfl, rfl, rfl, by decide +kernel, rfl, by decide +kernel, by decide +kernel⟩
abbrev s_check_kind : Stmt := top 30
theorem sc_check_kind : FnScope ["kind"] ["kind"] (defScope s_check_kind) := ⟨rfl, rfl, rfl, by decide +kernel, rfl, by decide +kernel, by decide +kernel⟩
abbrev s_byte_width : Stmt := top 32
theorem sc_byte_width : FnScope ["char"] ["char"] (defScope s_byte_width) := ⟨rfl, rfl, rfl, by decide +kernel, rfl, by decide +kernel, by decide +kernel⟩
abbrev s_byte_items : Stmt := top 34
theorem sc_byte_items : FnScope ["char", "size", "behind", "rest"] ["char"] (defScope s_byte_items) := ⟨rfl, rfl, rfl, by decide +kernel, rfl, by decide +kernel, by decide +kernel⟩
abbrev s_unit_items : Stmt := top 35
theorem sc_unit_items : FnScope ["char", "rest"] ["char"] (defScope s_unit_items) := ⟨rfl, rfl, rfl, by decide +kernel, rfl, by decide +kernel, by decide +kernel⟩
abbrev s_char_items : Stmt := top 33
theorem sc_char_items : FnScope ["char", "kind"] ["char", "kind"] (defScope s_char_items) := ⟨rfl, rfl, rfl, by decide +kernel, rfl, by decide +kernel, by decide +kernel⟩
abbrev s_items : Stmt := top 27
theorem sc_items : FnScope ["char", "kind"] ["char", "kind"] (defScope s_items) := ⟨rfl, rfl, rfl, by decide +kernel, rfl, by decide +kernel, by decide +kernel⟩
abbrev s_l_all : Stmt := top 47
theorem sc_l_all : FnScope ["_law_chars_here", "_law_kind", "_law_found", "_law_char_here"] ["_law_chars_here", "_law_kind"] (defScope s_l_all) := ⟨rfl, rfl, rfl, by decide +kernel, rfl, by decide +kernel, by decide +kernel⟩
abbrev s_check_text : Stmt := top 31
theorem sc_check_text : FnScope ["text"] ["text"] (defScope s_check_text) := ⟨rfl, rfl, rfl, by decide +kernel, rfl, by decide +kernel, by decide +kernel⟩
abbrev s_Text_chars : Stmt := inClass (top 36) 2
theorem sc_Text_chars : FnScope ["self"] ["self"] (defScope s_Text_chars) := ⟨rfl, rfl, rfl, by decide +kernel, rfl, by decide +kernel, by decide +kernel⟩
abbrev s_text_items : Stmt := top 39
theorem sc_text_items : FnScope ["text", "kind", "char", "item"] ["text", "kind"] (defScope s_text_items) := ⟨rfl, rfl, rfl, by decide +kernel, rfl, by decide +kernel, by decide +kernel⟩
abbrev s_compare : Stmt := top 40
theorem sc_compare : FnScope ["one", "other", "kind", "left", "right"] ["one", "other", "kind"] (defScope s_compare) := ⟨rfl, rfl, rfl, by decide +kernel, rfl, by decide +kernel, by decide +kernel⟩
abbrev s_l_caught : Stmt := top 49
theorem sc_l_caught : FnScope ["_law_one", "_law_other", "_law_kind", "e"] ["_law_one", "_law_other", "_law_kind"] (defScope s_l_caught) := ⟨rfl, rfl, rfl, by decide +kernel, rfl, by decide +kernel, by decide +kernel⟩
abbrev s_l_pair_right : Stmt := top 50
theorem sc_l_pair_right : FnScope ["_law_left", "_law_right", "_law_one", "_law_other", "_law_kind", "_law_due"] ["_law_left", "_law_right"] (defScope s_l_pair_right) := ⟨rfl, rfl, rfl, by decide +kernel, rfl, by decide +kernel, by decide +kernel⟩
abbrev s_law : Stmt := top 51
theorem sc_law : FnScope ["_law_script", "_law_index", "_law_bag_here", "_law_turn", "_law_begin", "_law_lists", "_law_left", "_law_right", "_law_text", "_law_odd"] ["_law_script"] (defScope s_law) := ⟨rfl, rfl, rfl, by decide +kernel, rfl, by decide +kernel, by decide +kernel⟩
abbrev s_InvalidChar : Stmt := inClass (top 3) 0
theorem sc_InvalidChar : FnScope ["self", "value"] ["self", "value"] (defScope s_InvalidChar) := ⟨rfl, rfl, rfl, by decide +kernel, rfl, by decide +kernel, by decide +kernel⟩
abbrev s_InvalidChars : Stmt := inClass (top 4) 0
theorem sc_InvalidChars : FnScope ["self", "value"] ["self", "value"] (defScope s_InvalidChars) := ⟨rfl, rfl, rfl, by decide +kernel, rfl, by decide +kernel, by decide +kernel⟩
abbrev s_InvalidText : Stmt := inClass (top 5) 0
theorem sc_InvalidText : FnScope ["self", "value"] ["self", "value"] (defScope s_InvalidText) := ⟨rfl, rfl, rfl, by decide +kernel, rfl, by decide +kernel, by decide +kernel⟩
abbrev s_InvalidKind : Stmt := inClass (top 6) 0
theorem sc_InvalidKind : FnScope ["self", "value"] ["self", "value"] (defScope s_InvalidKind) := ⟨rfl, rfl, rfl, by decide +kernel, rfl, by decide +kernel, by decide +kernel⟩
abbrev s_BadPlace : Stmt := inClass (top 7) 0
theorem sc_BadPlace : FnScope ["self", "number"] ["self", "number"] (defScope s_BadPlace) := ⟨rfl, rfl, rfl, by decide +kernel, rfl, by decide +kernel, by decide +kernel⟩
/-- where the text's things stand -/
structure Ads where
  a_l_bag : Addr
  d_l_bag : FuncData
  a_l_cell : Addr
  d_l_cell : FuncData
  a_l_take : Addr
  d_l_take : FuncData
  a_l_char : Addr
  d_l_char : FuncData
  a_l_chars : Addr
  d_l_chars : FuncData
  a_is_list : Addr
  d_is_list : FuncData
  a_is_whole : Addr
  d_is_whole : FuncData
  a_is_integer : Addr
  d_is_integer : FuncData
  a_is_char : Addr
  d_is_char : FuncData
  a_check_char : Addr
  d_check_char : FuncData
  a_check_chars : Addr
  d_check_chars : FuncData
  a_Text_init : Addr
  d_Text_init : FuncData
  a_Text_gt : Addr
  d_Text_gt : FuncData
  a_Text_lt : Addr
  d_Text_lt : FuncData
  a_l_sign : Addr
  d_l_sign : FuncData
  a_is_kind : Addr
  d_is_kind : FuncData
  a_check_kind : Addr
  d_check_kind : FuncData
  a_byte_width : Addr
  d_byte_width : FuncData
  a_byte_items : Addr
  d_byte_items : FuncData
  a_unit_items : Addr
  d_unit_items : FuncData
  a_char_items : Addr
  d_char_items : FuncData
  a_items : Addr
  d_items : FuncData
  a_l_all : Addr
  d_l_all : FuncData
  a_check_text : Addr
  d_check_text : FuncData
  a_Text_chars : Addr
  d_Text_chars : FuncData
  a_text_items : Addr
  d_text_items : FuncData
  a_compare : Addr
  d_compare : FuncData
  a_l_caught : Addr
  d_l_caught : FuncData
  a_l_pair_right : Addr
  d_l_pair_right : FuncData
  a_law : Addr
  d_law : FuncData
  C_Text : Addr
  C_InvalidChar : Addr
  n_InvalidChar : Addr
  d_InvalidChar : FuncData
  C_InvalidChars : Addr
  n_InvalidChars : Addr
  d_InvalidChars : FuncData
  C_InvalidText : Addr
  n_InvalidText : Addr
  d_InvalidText : FuncData
  C_InvalidKind : Addr
  n_InvalidKind : Addr
  d_InvalidKind : FuncData
  C_BadPlace : Addr
  n_BadPlace : Addr
  d_BadPlace : FuncData
  t_KINDS : Addr
  t_FIRST_BYTES : Addr
/-- what the top has left -/
structure Txt (K : PySem.W.Frag) (mg : Str → Option Value) (A : Ads) : Prop where
  g_l_bag : mg "_law_bag" = some (.ref A.a_l_bag)
  F_l_bag : Fun K "_law_bag" "_law_bag" s_l_bag A.a_l_bag A.d_l_bag
  b_l_bag : Binds K A.d_l_bag ["_law_cell_here"] []
  g_l_cell : mg "_law_cell" = some (.ref A.a_l_cell)
  F_l_cell : Fun K "_law_cell" "_law_cell" s_l_cell A.a_l_cell A.d_l_cell
  b_l_cell : Binds K A.d_l_cell ["_law_script", "_law_index"] []
  g_l_take : mg "_law_take" = some (.ref A.a_l_take)
  F_l_take : Fun K "_law_take" "_law_take" s_l_take A.a_l_take A.d_l_take
  b_l_take : Binds K A.d_l_take ["_law_bag_here", "_law_many"] []
  g_l_char : mg "_law_char" = some (.ref A.a_l_char)
  F_l_char : Fun K "_law_char" "_law_char" s_l_char A.a_l_char A.d_l_char
  b_l_char : Binds K A.d_l_char ["_law_bag_here"] []
  g_l_chars : mg "_law_chars" = some (.ref A.a_l_chars)
  F_l_chars : Fun K "_law_chars" "_law_chars" s_l_chars A.a_l_chars A.d_l_chars
  b_l_chars : Binds K A.d_l_chars ["_law_bag_here", "_law_most"] []
  g_is_list : mg "is_list" = some (.ref A.a_is_list)
  F_is_list : Fun K "is_list" "is_list" s_is_list A.a_is_list A.d_is_list
  b_is_list : Binds K A.d_is_list ["value"] []
  g_is_whole : mg "is_whole" = some (.ref A.a_is_whole)
  F_is_whole : Fun K "is_whole" "is_whole" s_is_whole A.a_is_whole A.d_is_whole
  b_is_whole : Binds K A.d_is_whole ["value"] []
  g_is_integer : mg "is_integer" = some (.ref A.a_is_integer)
  F_is_integer : Fun K "is_integer" "is_integer" s_is_integer A.a_is_integer A.d_is_integer
  b_is_integer : Binds K A.d_is_integer ["value", "low", "high"] []
  g_is_char : mg "is_char" = some (.ref A.a_is_char)
  F_is_char : Fun K "is_char" "is_char" s_is_char A.a_is_char A.d_is_char
  b_is_char : Binds K A.d_is_char ["value"] []
  g_check_char : mg "check_char" = some (.ref A.a_check_char)
  F_check_char : Fun K "check_char" "check_char" s_check_char A.a_check_char A.d_check_char
  b_check_char : Binds K A.d_check_char ["char"] []
  g_check_chars : mg "check_chars" = some (.ref A.a_check_chars)
  F_check_chars : Fun K "check_chars" "check_chars" s_check_chars A.a_check_chars A.d_check_chars
  b_check_chars : Binds K A.d_check_chars ["chars"] []
  F_Text_init : Fun K "__init__" "Text.__init__" s_Text_init A.a_Text_init A.d_Text_init
  b_Text_init : Binds K A.d_Text_init ["self", "chars"] []
  k_Text : Mk K A.C_Text A.a_Text_init
  F_Text_gt : Fun K "__gt__" "Text.__gt__" s_Text_gt A.a_Text_gt A.d_Text_gt
  b_Text_gt : Binds K A.d_Text_gt ["self", "other"] []
  o_Text_gt : Spc K A.C_Text "__gt__" A.a_Text_gt
  F_Text_lt : Fun K "__lt__" "Text.__lt__" s_Text_lt A.a_Text_lt A.d_Text_lt
  b_Text_lt : Binds K A.d_Text_lt ["self", "other"] []
  o_Text_lt : Spc K A.C_Text "__lt__" A.a_Text_lt
  g_l_sign : mg "_law_sign" = some (.ref A.a_l_sign)
  F_l_sign : Fun K "_law_sign" "_law_sign" s_l_sign A.a_l_sign A.d_l_sign
  b_l_sign : Binds K A.d_l_sign ["_law_one", "_law_other"] []
  g_is_kind : mg "is_kind" = some (.ref A.a_is_kind)
  F_is_kind : Fun K "is_kind" "is_kind" s_is_kind A.a_is_kind A.d_is_kind
  b_is_kind : Binds K A.d_is_kind ["value"] []
  g_check_kind : mg "check_kind" = some (.ref A.a_check_kind)
  F_check_kind : Fun K "check_kind" "check_kind" s_check_kind A.a_check_kind A.d_check_kind
  b_check_kind : Binds K A.d_check_kind ["kind"] []
  g_byte_width : mg "byte_width" = some (.ref A.a_byte_width)
  F_byte_width : Fun K "byte_width" "byte_width" s_byte_width A.a_byte_width A.d_byte_width
  b_byte_width : Binds K A.d_byte_width ["char"] []
  g_byte_items : mg "byte_items" = some (.ref A.a_byte_items)
  F_byte_items : Fun K "byte_items" "byte_items" s_byte_items A.a_byte_items A.d_byte_items
  b_byte_items : Binds K A.d_byte_items ["char"] []
  g_unit_items : mg "unit_items" = some (.ref A.a_unit_items)
  F_unit_items : Fun K "unit_items" "unit_items" s_unit_items A.a_unit_items A.d_unit_items
  b_unit_items : Binds K A.d_unit_items ["char"] []
  g_char_items : mg "char_items" = some (.ref A.a_char_items)
  F_char_items : Fun K "char_items" "char_items" s_char_items A.a_char_items A.d_char_items
  b_char_items : Binds K A.d_char_items ["char", "kind"] []
  g_items : mg "items" = some (.ref A.a_items)
  F_items : Fun K "items" "items" s_items A.a_items A.d_items
  b_items : Binds K A.d_items ["char", "kind"] []
  g_l_all : mg "_law_all" = some (.ref A.a_l_all)
  F_l_all : Fun K "_law_all" "_law_all" s_l_all A.a_l_all A.d_l_all
  b_l_all : Binds K A.d_l_all ["_law_chars_here", "_law_kind"] []
  g_check_text : mg "check_text" = some (.ref A.a_check_text)
  F_check_text : Fun K "check_text" "check_text" s_check_text A.a_check_text A.d_check_text
  b_check_text : Binds K A.d_check_text ["text"] []
  F_Text_chars : Fun K "chars" "Text.chars" s_Text_chars A.a_Text_chars A.d_Text_chars
  b_Text_chars : Binds K A.d_Text_chars ["self"] []
  m_Text_chars : Meth K A.C_Text "chars" A.a_Text_chars
  g_text_items : mg "text_items" = some (.ref A.a_text_items)
  F_text_items : Fun K "text_items" "text_items" s_text_items A.a_text_items A.d_text_items
  b_text_items : Binds K A.d_text_items ["text", "kind"] []
  g_compare : mg "compare" = some (.ref A.a_compare)
  F_compare : Fun K "compare" "compare" s_compare A.a_compare A.d_compare
  b_compare : Binds K A.d_compare ["one", "other", "kind"] []
  g_l_caught : mg "_law_caught" = some (.ref A.a_l_caught)
  F_l_caught : Fun K "_law_caught" "_law_caught" s_l_caught A.a_l_caught A.d_l_caught
  b_l_caught : Binds K A.d_l_caught ["_law_one", "_law_other", "_law_kind"] []
  g_l_pair_right : mg "_law_pair_right" = some (.ref A.a_l_pair_right)
  F_l_pair_right : Fun K "_law_pair_right" "_law_pair_right" s_l_pair_right A.a_l_pair_right A.d_l_pair_right
  b_l_pair_right : Binds K A.d_l_pair_right ["_law_left", "_law_right"] []
  g_law : mg "law" = some (.ref A.a_law)
  F_law : Fun K "law" "law" s_law A.a_law A.d_law
  g_Text : mg "Text" = some (.ref A.C_Text)
  is_Text : InsC K A.C_Text
  g_InvalidChar : mg "InvalidChar" = some (.ref A.C_InvalidChar)
  x_InvalidChar : OexC K A.C_InvalidChar
  f_InvalidChar : XfC K A.C_InvalidChar
  i_InvalidChar : PySem.W.findIn K (.ref A.C_InvalidChar) "__init__" = some (some (.ref A.n_InvalidChar))
  t_InvalidChar : PySem.W.typeIn K (.ref A.n_InvalidChar) = some (.type "function")
  F_InvalidChar : Fun K "__init__" "InvalidChar.__init__" s_InvalidChar A.n_InvalidChar A.d_InvalidChar
  b_InvalidChar : Binds K A.d_InvalidChar ["self", "value"] []
  v_InvalidChar_value : PySem.W.findIn K (.ref A.C_InvalidChar) "value" = some none
  g_InvalidChars : mg "InvalidChars" = some (.ref A.C_InvalidChars)
  x_InvalidChars : OexC K A.C_InvalidChars
  f_InvalidChars : XfC K A.C_InvalidChars
  i_InvalidChars : PySem.W.findIn K (.ref A.C_InvalidChars) "__init__" = some (some (.ref A.n_InvalidChars))
  t_InvalidChars : PySem.W.typeIn K (.ref A.n_InvalidChars) = some (.type "function")
  F_InvalidChars : Fun K "__init__" "InvalidChars.__init__" s_InvalidChars A.n_InvalidChars A.d_InvalidChars
  b_InvalidChars : Binds K A.d_InvalidChars ["self", "value"] []
  v_InvalidChars_value : PySem.W.findIn K (.ref A.C_InvalidChars) "value" = some none
  g_InvalidText : mg "InvalidText" = some (.ref A.C_InvalidText)
  x_InvalidText : OexC K A.C_InvalidText
  f_InvalidText : XfC K A.C_InvalidText
  i_InvalidText : PySem.W.findIn K (.ref A.C_InvalidText) "__init__" = some (some (.ref A.n_InvalidText))
  t_InvalidText : PySem.W.typeIn K (.ref A.n_InvalidText) = some (.type "function")
  F_InvalidText : Fun K "__init__" "InvalidText.__init__" s_InvalidText A.n_InvalidText A.d_InvalidText
  b_InvalidText : Binds K A.d_InvalidText ["self", "value"] []
  v_InvalidText_value : PySem.W.findIn K (.ref A.C_InvalidText) "value" = some none
  g_InvalidKind : mg "InvalidKind" = some (.ref A.C_InvalidKind)
  x_InvalidKind : OexC K A.C_InvalidKind
  f_InvalidKind : XfC K A.C_InvalidKind
  i_InvalidKind : PySem.W.findIn K (.ref A.C_InvalidKind) "__init__" = some (some (.ref A.n_InvalidKind))
  t_InvalidKind : PySem.W.typeIn K (.ref A.n_InvalidKind) = some (.type "function")
  F_InvalidKind : Fun K "__init__" "InvalidKind.__init__" s_InvalidKind A.n_InvalidKind A.d_InvalidKind
  b_InvalidKind : Binds K A.d_InvalidKind ["self", "value"] []
  v_InvalidKind_value : PySem.W.findIn K (.ref A.C_InvalidKind) "value" = some none
  g_BadPlace : mg "BadPlace" = some (.ref A.C_BadPlace)
  x_BadPlace : OexC K A.C_BadPlace
  f_BadPlace : XfC K A.C_BadPlace
  i_BadPlace : PySem.W.findIn K (.ref A.C_BadPlace) "__init__" = some (some (.ref A.n_BadPlace))
  t_BadPlace : PySem.W.typeIn K (.ref A.n_BadPlace) = some (.type "function")
  F_BadPlace : Fun K "__init__" "BadPlace.__init__" s_BadPlace A.n_BadPlace A.d_BadPlace
  b_BadPlace : Binds K A.d_BadPlace ["self", "number"] []
  v_BadPlace_number : PySem.W.findIn K (.ref A.C_BadPlace) "number" = some none
  e_InvalidChar_InvalidKind : PySem.W.exmOne K (.ref A.C_InvalidChar) (.ref A.C_InvalidKind) = some false
  e_InvalidChars_InvalidKind : PySem.W.exmOne K (.ref A.C_InvalidChars) (.ref A.C_InvalidKind) = some false
  e_InvalidText_InvalidKind : PySem.W.exmOne K (.ref A.C_InvalidText) (.ref A.C_InvalidKind) = some false
  e_InvalidKind_InvalidKind : PySem.W.exmOne K (.ref A.C_InvalidKind) (.ref A.C_InvalidKind) = some true
  e_BadPlace_InvalidKind : PySem.W.exmOne K (.ref A.C_BadPlace) (.ref A.C_InvalidKind) = some false
  e_InvalidChar_InvalidText : PySem.W.exmOne K (.ref A.C_InvalidChar) (.ref A.C_InvalidText) = some false
  e_InvalidChars_InvalidText : PySem.W.exmOne K (.ref A.C_InvalidChars) (.ref A.C_InvalidText) = some false
  e_InvalidText_InvalidText : PySem.W.exmOne K (.ref A.C_InvalidText) (.ref A.C_InvalidText) = some true
  e_InvalidKind_InvalidText : PySem.W.exmOne K (.ref A.C_InvalidKind) (.ref A.C_InvalidText) = some false
  e_BadPlace_InvalidText : PySem.W.exmOne K (.ref A.C_BadPlace) (.ref A.C_InvalidText) = some false
  n_Text_points : NoAttr K A.C_Text "points"
  o_Text_NoneType : PySem.W.kitOne K (.type "NoneType") (.ref A.C_Text) = some false
  o_Text_bool : PySem.W.kitOne K (.type "bool") (.ref A.C_Text) = some false
  o_Text_int : PySem.W.kitOne K (.type "int") (.ref A.C_Text) = some false
  o_Text_str : PySem.W.kitOne K (.type "str") (.ref A.C_Text) = some false
  o_Text_list : PySem.W.kitOne K (.type "list") (.ref A.C_Text) = some false
  o_Text_tuple : PySem.W.kitOne K (.type "tuple") (.ref A.C_Text) = some false
  o_Text_dict : PySem.W.kitOne K (.type "dict") (.ref A.C_Text) = some false
  q_Text_bool : PySem.W.kitOne K (.ref A.C_Text) (.type "bool") = some false
  q_Text_int : PySem.W.kitOne K (.ref A.C_Text) (.type "int") = some false
  q_Text_list : PySem.W.kitOne K (.ref A.C_Text) (.type "list") = some false
  q_Text_str : PySem.W.kitOne K (.ref A.C_Text) (.type "str") = some false
  q_Text_tuple : PySem.W.kitOne K (.ref A.C_Text) (.type "tuple") = some false
  nf_Text_NoneType : PySem.W.notFirst K A.C_Text (.type "NoneType") = true
  nf_Text_bool : PySem.W.notFirst K A.C_Text (.type "bool") = true
  nf_Text_int : PySem.W.notFirst K A.C_Text (.type "int") = true
  nf_Text_str : PySem.W.notFirst K A.C_Text (.type "str") = true
  nf_Text_list : PySem.W.notFirst K A.C_Text (.type "list") = true
  nf_Text_tuple : PySem.W.notFirst K A.C_Text (.type "tuple") = true
  nf_Text_dict : PySem.W.notFirst K A.C_Text (.type "dict") = true
  nf_Text_Text : PySem.W.notFirst K A.C_Text (.ref A.C_Text) = true
  ne_Text : NeC K A.C_Text
  c_LAST_CHAR : ∃ t, mg "LAST_CHAR" = some (.int 1114111 t)
  c_FIRST_SURROGATE : ∃ t, mg "FIRST_SURROGATE" = some (.int 55296 t)
  c_LAST_SURROGATE : ∃ t, mg "LAST_SURROGATE" = some (.int 57343 t)
  g_KINDS : mg "KINDS" = some (.ref A.t_KINDS)
  s_KINDS : ∀ H : Hp, SqT K H A.t_KINDS [.str "bytes", .str "units", .str "chars"]
  c_FIRST_WIDE : ∃ t, mg "FIRST_WIDE" = some (.int 65536 t)
  c_NEXT_BYTE : ∃ t, mg "NEXT_BYTE" = some (.int 128 t)
  c_BYTE_SHARE : ∃ t, mg "BYTE_SHARE" = some (.int 64 t)
  g_FIRST_BYTES : mg "FIRST_BYTES" = some (.ref A.t_FIRST_BYTES)
  s_FIRST_BYTES : KTab K A.t_FIRST_BYTES [(1, 0), (2, 192), (3, 224), (4, 240)]
  c_LOW_UNIT : ∃ t, mg "LOW_UNIT" = some (.int 56320 t)
  c_UNIT_SHARE : ∃ t, mg "UNIT_SHARE" = some (.int 1024 t)
  c_HIGH_UNIT : ∃ t, mg "HIGH_UNIT" = some (.int 55296 t)
  z_len : mg "len" = none
  z_min : mg "min" = none
  z_max : mg "max" = none
  z_range : mg "range" = none
  z_isinstance : mg "isinstance" = none
  z_list : mg "list" = none
  z_tuple : mg "tuple" = none
  z_bool : mg "bool" = none
  z_int : mg "int" = none
  z_repr : mg "repr" = none
  z_str : mg "str" = none
def nmsL : List Str := ["points", "value", "number"]
def lay (K : PySem.W.Frag) (A : Ads) : Lay := ⟨K, [A.C_Text], [A.C_InvalidChar, A.C_InvalidChars, A.C_InvalidText, A.C_InvalidKind, A.C_BadPlace], nmsL, by decide, []⟩
theorem nn_chars : ("chars" : Str) ∉ nmsL := by decide
section
variable {P : Program} {w : World} {K : PySem.W.Frag} {mg : Str → Option Value} {base : Heap} {A : Ads} (T : Txt K mg A)
include T
theorem cf_Text : ClsF (lay K A) K 0 A.C_Text := ⟨rfl, T.is_Text.cl⟩
theorem nf_Text : NfF (lay K A) K A.C_Text ["NoneType", "bool", "int", "str", "list", "tuple", "dict"] [0] := ⟨(all_cons T.nf_Text_NoneType (all_cons T.nf_Text_bool (all_cons T.nf_Text_int (all_cons T.nf_Text_str (all_cons T.nf_Text_list (all_cons T.nf_Text_tuple (all_cons T.nf_Text_dict all_nil))))))), (all_cons ⟨_, rfl, T.nf_Text_Text⟩ all_nil)⟩
end
def m_l_bag : Ms := (sRet (mLst (aCons (mBlt gMax2 (xsCons (xE (mC (.int 0))) (xsCons (xE (mBin gSub (xVar 0) (xE (mBin gPow (xE (mC (.int 10))) (xE (mC (.int 18))))))) xsNil))) (aCons (mBin gMod (xVar 0) (xE (mC (.int 2147483629)))) (aCons (mC (.int 0)) aNil)))))
def f_l_bag : List D → Rz := runF [false] 1 m_l_bag
def m_l_cell : Ms := (sSeq (sIf (mTst (mBin gLt (xVar 1) (xE (mBlt gLen (xsCons (xVar 0) xsNil))))) (sRet (mBin gIx (xVar 0) (xVar 1))) sNil) (sRet (mBin gAdd (xE (mBin gMul (xE (mC (.int 15491279))) (xVar 1))) (xE (mC (.int 617))))))
def f_l_cell : List D → Rz := runF [false, false] 2 m_l_cell
def m_l_take : Ms := (sSeq (sIf (mTst (mBin (gInt fun i j => decide (j < i)) (xE (mBin gIx (xVar 0) (xE (mC (.int 0))))) (xE (mC (.int 0))))) (sSeq (sSet 2 (mBin gMod (xE (mBin gIx (xVar 0) (xE (mC (.int 0))))) (xVar 1))) (sSeq (sPut 0 (mC (.int 0)) (mBin gDiv (xE (mBin gIx (xVar 0) (xE (mC (.int 0))))) (xVar 1))) (sRet (mVar 2)))) sNil) (sSeq (sPut 0 (mC (.int 2)) (mBin gAdd (xE (mBin gIx (xVar 0) (xE (mC (.int 2))))) (xE (mC (.int 1))))) (sSeq (sSet 3 (mBin gMod (xE (mBin gPow (xE (mBin gAdd (xE (mBin gAdd (xE (mBin gIx (xVar 0) (xE (mC (.int 1))))) (xE (mBin gMul (xE (mC (.int 15491279))) (xE (mBin gIx (xVar 0) (xE (mC (.int 2))))))))) (xE (mC (.int 617))))) (xE (mC (.int 5))))) (xE (mC (.int 2147483647))))) (sSeq (sSet 3 (mBin gMod (xE (mBin gPow (xE (mBin gAdd (xVar 3) (xE (mBin gMul (xE (mC (.int 103177))) (xE (mBin gIx (xVar 0) (xE (mC (.int 2))))))))) (xE (mC (.int 3))))) (xE (mC (.int 2147483587))))) (sRet (mBin gMod (xE (mBin gDiv (xVar 3) (xE (mC (.int 16))))) (xVar 1)))))))
def f_l_take : List D → Rz := runF [true, false] 4 m_l_take
def m_l_char : Ms := (sSeq (sSet 1 (mLst (aCons (mC (.int 0)) (aCons (mC (.int 10)) (aCons (mC (.int 13)) (aCons (mC (.int 97)) (aCons (mC (.int 127)) (aCons (mC (.int 128)) (aCons (mC (.int 2047)) (aCons (mC (.int 2048)) (aCons (mC (.int 55295)) (aCons (mC (.int 57344)) (aCons (mC (.int 65535)) (aCons (mC (.int 65536)) (aCons (mC (.int 1114111)) aNil))))))))))))))) (sSeq (sIf (mTst (mBin gEq (xE (mCall f_l_take [true, false] (xsCons (xVar 0) (xsCons (xE (mC (.int 2))) xsNil)))) (xE (mC (.int 0))))) (sRet (mBin gIx (xVar 1) (xE (mCall f_l_take [true, false] (xsCons (xVar 0) (xsCons (xE (mC (.int 13))) xsNil)))))) sNil) (sSeq (sAsg (gTp 2 (gCn (gNm 2) (gCn (gNm 3) gNl))) (mBin gIx (xE (mLst (aCons (mTup (aCons (mC (.int 0)) (aCons (mC (.int 127)) aNil))) (aCons (mTup (aCons (mC (.int 128)) (aCons (mC (.int 2047)) aNil))) (aCons (mTup (aCons (mC (.int 2048)) (aCons (mC (.int 55295)) aNil))) (aCons (mTup (aCons (mC (.int 57344)) (aCons (mC (.int 65535)) aNil))) (aCons (mTup (aCons (mC (.int 65536)) (aCons (mC (.int 1114111)) aNil))) aNil))))))) (xE (mCall f_l_take [true, false] (xsCons (xVar 0) (xsCons (xE (mC (.int 5))) xsNil)))))) (sRet (mBin gAdd (xVar 2) (xE (mCall f_l_take [true, false] (xsCons (xVar 0) (xsCons (xE (mBin gAdd (xE (mBin gSub (xVar 3) (xVar 2))) (xE (mC (.int 1))))) xsNil)))))))))
def f_l_char : List D → Rz := runF [true] 4 m_l_char
def m_l_chars : Ms := (sRet (mLc (iRn1 (mCall f_l_take [true, false] (xsCons (xVar 0) (xsCons (xE (mBin gAdd (xVar 1) (xE (mC (.int 1))))) xsNil)))) (gNm 2) tYs (mCall f_l_char [true] (xsCons (xVar 0) xsNil)) (List.map (fun x => x.2) ([("_law_index", 2)] : List (PySem.Str × Nat)))))
def f_l_chars : List D → Rz := runF [true, false] 3 m_l_chars
def m_is_list : Ms := (sRet (mIsi [("NoneType", false), ("bool", false), ("int", false), ("str", false), ("list", true), ("tuple", true), ("dict", false)] [(0, false)] (xVar 0)))
def f_is_list : List D → Rz := runF [false] 1 m_is_list
def m_is_whole : Ms := (sRet (vAn (mIsi [("NoneType", false), ("bool", true), ("int", true), ("str", false), ("list", false), ("tuple", false), ("dict", false)] [(0, false)] (xVar 0)) (vNt (mIsi [("NoneType", false), ("bool", true), ("int", false), ("str", false), ("list", false), ("tuple", false), ("dict", false)] [(0, false)] (xVar 0)))))
def f_is_whole : List D → Rz := runF [false] 1 m_is_whole
def m_is_integer : Ms := (sRet (vAn (mCall f_is_whole [false] (xsCons (xE (mVar 0)) xsNil)) (mChn (gInt fun i j => decide (i ≤ j)) (gInt fun i j => decide (i ≤ j)) (xVar 1) (xVar 0) (xVar 2))))
def f_is_integer : List D → Rz := runF [false, false, false] 3 m_is_integer
def m_is_char : Ms := (sSeq (sIf (tNt (mTst (mCall f_is_integer [false, false, false] (xsCons (xE (mVar 0)) (xsCons (xE (mC (.int 0))) (xsCons (xE (mC (.int 1114111))) xsNil)))))) (sRet (mC (.bl false))) sNil) (sRet (vNt (mChn (gInt fun i j => decide (i ≤ j)) (gInt fun i j => decide (i ≤ j)) (xE (mC (.int 55296))) (xVar 0) (xE (mC (.int 57343)))))))
def f_is_char : List D → Rz := runF [false] 1 m_is_char
def m_check_char : Ms := (sIf (tNt (mTst (mCall f_is_char [false] (xsCons (xE (mVar 0)) xsNil)))) (sRaise 0 [1] (aCons (mVar 0) aNil)) sNil)
def f_check_char : List D → Rz := runF [false] 1 m_check_char
def m_check_chars : Ms := (sSeq (sIf (tNt (mTst (mCall f_is_list [false] (xsCons (xE (mVar 0)) xsNil)))) (sRaise 1 [1] (aCons (mVar 0) aNil)) sNil) (sFor (iSeq (mVar 0)) (gNm 1) (sExp (mCall f_check_char [false] (xsCons (xE (mVar 1)) xsNil)))))
def f_check_chars : List D → Rz := runF [false] 2 m_check_chars
def m_Text_init : Ms := (sSeq (sExp (mCall f_check_chars [false] (xsCons (xE (mVar 1)) xsNil))) (sFldP 0 0 0 (mBlt gTupOf (xsCons (xVar 1) xsNil))))
def f_Text_init : List D → Rz := runF (true :: List.replicate 1 false) 2 m_Text_init
def m_Text_gt : Ms := (sSeq (sIf (tNt (mTst (mIsi [("NoneType", false), ("bool", false), ("int", false), ("str", false), ("list", false), ("tuple", false), ("dict", false)] [(0, true)] (xVar 1)))) (sRet mDead) sNil) (sRet (mBin (gLtD true) (xE (mFld 0 0 (xVar 0))) (xE (mFld 0 0 (xVar 1))))))
def f_Text_gt : List D → Rz := runF [false, false] 2 m_Text_gt
def m_Text_lt : Ms := (sSeq (sIf (tNt (mTst (mIsi [("NoneType", false), ("bool", false), ("int", false), ("str", false), ("list", false), ("tuple", false), ("dict", false)] [(0, true)] (xVar 1)))) (sRet mDead) sNil) (sRet (mBin (gLtD false) (xE (mFld 0 0 (xVar 0))) (xE (mFld 0 0 (xVar 1))))))
def f_Text_lt : List D → Rz := runF [false, false] 2 m_Text_lt
def m_l_sign : Ms := (sRet (mBin gSub (xE (mBlt gToI (xsCons (xE (mBin (gLtD true) (xVar 0) (xVar 1))) xsNil))) (xE (mBlt gToI (xsCons (xE (mBin (gLtD false) (xVar 0) (xVar 1))) xsNil)))))
def f_l_sign : List D → Rz := runF [false, false] 2 m_l_sign
def m_is_kind : Ms := (sRet (vAn (mIsi [("NoneType", false), ("bool", false), ("int", false), ("str", true), ("list", false), ("tuple", false), ("dict", false)] [(0, false)] (xVar 0)) (mBin gIn (xVar 0) (xE (mC (.ctp [.str "bytes", .str "units", .str "chars"]))))))
def f_is_kind : List D → Rz := runF [false] 1 m_is_kind
def m_check_kind : Ms := (sIf (tNt (mTst (mCall f_is_kind [false] (xsCons (xE (mVar 0)) xsNil)))) (sRaise 3 [1] (aCons (mVar 0) aNil)) sNil)
def f_check_kind : List D → Rz := runF [false] 1 m_check_kind
def m_byte_width : Ms := (sSeq (sIf (mTst (mBin gLt (xVar 0) (xE (mC (.int 128))))) (sRet (mC (.int 1))) sNil) (sSeq (sIf (mTst (mBin gLt (xVar 0) (xE (mC (.int 2048))))) (sRet (mC (.int 2))) sNil) (sSeq (sIf (mTst (mBin gLt (xVar 0) (xE (mC (.int 65536))))) (sRet (mC (.int 3))) sNil) (sRet (mC (.int 4))))))
def f_byte_width : List D → Rz := runF [false] 1 m_byte_width
def m_byte_items : Ms := (sSeq (sSet 1 (mCall f_byte_width [false] (xsCons (xE (mVar 0)) xsNil))) (sSeq (sSet 2 (mLst aNil)) (sSeq (sSet 3 (mVar 0)) (sSeq (sWhl (fun _ => 10) (mTst (mBin gLt (xE (mBlt gLen (xsCons (xVar 2) xsNil))) (xE (mBin gSub (xVar 1) (xE (mC (.int 1))))))) (sSeq (sSet 2 (mBin gCat (xE (mLst (aCons (mBin gAdd (xE (mC (.int 128))) (xE (mBin gMod (xVar 3) (xE (mC (.int 64)))))) aNil))) (xVar 2))) (sSet 3 (mBin gDiv (xVar 3) (xE (mC (.int 64))))))) (sRet (mBin gCat (xE (mLst (aCons (mBin gAdd (xE (mUn (gTab [(1, 0), (2, 192), (3, 224), (4, 240)]) (xVar 1))) (xVar 3)) aNil))) (xVar 2)))))))
def f_byte_items : List D → Rz := runF [false] 4 m_byte_items
def m_unit_items : Ms := (sSeq (sIf (mTst (mBin gLt (xVar 0) (xE (mC (.int 65536))))) (sRet (mLst (aCons (mVar 0) aNil))) sNil) (sSeq (sSet 1 (mBin gSub (xVar 0) (xE (mC (.int 65536))))) (sRet (mLst (aCons (mBin gAdd (xE (mC (.int 55296))) (xE (mBin gDiv (xVar 1) (xE (mC (.int 1024)))))) (aCons (mBin gAdd (xE (mC (.int 56320))) (xE (mBin gMod (xVar 1) (xE (mC (.int 1024)))))) aNil))))))
def f_unit_items : List D → Rz := runF [false] 2 m_unit_items
def m_char_items : Ms := (sSeq (sIf (mTst (mBin gEq (xVar 1) (xE (mC (.str "bytes"))))) (sRet (mCall f_byte_items [false] (xsCons (xE (mVar 0)) xsNil))) sNil) (sSeq (sIf (mTst (mBin gEq (xVar 1) (xE (mC (.str "units"))))) (sRet (mCall f_unit_items [false] (xsCons (xE (mVar 0)) xsNil))) sNil) (sRet (mLst (aCons (mVar 0) aNil)))))
def f_char_items : List D → Rz := runF [false, false] 2 m_char_items
def m_items : Ms := (sSeq (sExp (mCall f_check_char [false] (xsCons (xE (mVar 0)) xsNil))) (sSeq (sExp (mCall f_check_kind [false] (xsCons (xE (mVar 1)) xsNil))) (sRet (mCall f_char_items [false, false] (xsCons (xE (mVar 0)) (xsCons (xE (mVar 1)) xsNil))))))
def f_items : List D → Rz := runF [false, false] 2 m_items
def m_l_all : Ms := (sSeq (sSetO 2 (mLst aNil)) (sSeq (sFor (iSeq (mVar 0)) (gNm 3) (sExt 2 (xE (mCall f_items [false, false] (xsCons (xE (mVar 3)) (xsCons (xE (mVar 1)) xsNil)))))) (sRet (mFrz 2))))
def f_l_all : List D → Rz := runF [false, false] 4 m_l_all
def m_check_text : Ms := (sIf (tNt (mTst (mIsi [("NoneType", false), ("bool", false), ("int", false), ("str", false), ("list", false), ("tuple", false), ("dict", false)] [(0, true)] (xVar 0)))) (sRaise 2 [1] (aCons (mVar 0) aNil)) sNil)
def f_check_text : List D → Rz := runF [false] 1 m_check_text
def m_Text_chars : Ms := (sRet (mBlt gLstOf (xsCons (xE (mFld 0 0 (xVar 0))) xsNil)))
def f_Text_chars : List D → Rz := runF [false] 1 m_Text_chars
def m_text_items : Ms := (sRet (mLc2 (iSeq (mMeth0 0 f_Text_chars [false] (xE (mVar 0)))) (gNm 2) tYs (iSeq (mCall f_char_items [false, false] (xsCons (xE (mVar 2)) (xsCons (xE (mVar 1)) xsNil)))) (gNm 3) tYs (mVar 3) (List.map (fun x => x.2) ([("char", 2), ("item", 3)] : List (PySem.Str × Nat))) [3]))
def f_text_items : List D → Rz := runF [false, false] 4 m_text_items
def m_compare : Ms := (sSeq (sExp (mCall f_check_text [false] (xsCons (xE (mVar 0)) xsNil))) (sSeq (sExp (mCall f_check_text [false] (xsCons (xE (mVar 1)) xsNil))) (sSeq (sExp (mCall f_check_kind [false] (xsCons (xE (mVar 2)) xsNil))) (sSeq (sSet 3 (mCall f_text_items [false, false] (xsCons (xE (mVar 0)) (xsCons (xE (mVar 2)) xsNil)))) (sSeq (sSet 4 (mCall f_text_items [false, false] (xsCons (xE (mVar 1)) (xsCons (xE (mVar 2)) xsNil)))) (sSeq (sIf (mTst (mBin (gLtD false) (xVar 3) (xVar 4))) (sRet (mUn gNeg (xE (mC (.int 1))))) sNil) (sSeq (sIf (mTst (mBin (gLtD true) (xVar 3) (xVar 4))) (sRet (mC (.int 1))) sNil) (sRet (mC (.int 0))))))))))
def f_compare : List D → Rz := runF [false, false, false] 5 m_compare
def m_l_caught : Ms := (sTry (sRet (mLst (aCons (mC (.str "told")) (aCons (mCall f_compare [false, false, false] (xsCons (xE (mVar 0)) (xsCons (xE (mVar 1)) (xsCons (xE (mVar 2)) xsNil)))) aNil)))) 3 [⟨[(0, false), (1, false), (2, true), (3, false), (4, false)], 2, "text", .one 1⟩, ⟨[(0, false), (1, false), (2, false), (3, true), (4, false)], 3, "kind", .one 1⟩])
def f_l_caught : List D → Rz := runF [false, false, false] 4 m_l_caught
def m_l_pair_right : Ms := (sSeq (sPar [2, 3] (dCons false (mIf (mTst (mBin gEq (xE (mBin gMod (xE (mBlt gLen (xsCons (xVar 0) xsNil))) (xE (mC (.int 2))))) (xE (mC (.int 1))))) (mMake 0 1 f_Text_init (xsCons (xE (mBlt gTupOf (xsCons (xVar 0) xsNil))) xsNil)) (mMake 0 1 f_Text_init (xsCons (xE (mVar 0)) xsNil))) (dCons false (mMake 0 1 f_Text_init (xsCons (xE (mVar 1)) xsNil)) dNil))) (sSeq (sIf (mTst (mBin gNeS (xE (mBlt gReprE (xsCons (xE (mLst (aCons (mCmpO 0 ["NoneType", "bool", "int", "str", "list", "tuple", "dict"] [0] f_Text_lt [false, false] (xE (mVar 2)) (xE (mVar 3))) (aCons (mCmpO 0 ["NoneType", "bool", "int", "str", "list", "tuple", "dict"] [0] f_Text_gt [false, false] (xE (mVar 2)) (xE (mVar 3))) aNil)))) xsNil))) (xE (mBlt gReprE (xsCons (xE (mLst (aCons (mBin (gLtD false) (xVar 0) (xVar 1)) (aCons (mBin (gLtD true) (xVar 0) (xVar 1)) aNil)))) xsNil))))) (sRet (mC (.bl false))) sNil) (sSeq (sFor (iSeq (mLst (aCons (mC (.str "bytes")) (aCons (mC (.str "units")) (aCons (mC (.str "chars")) aNil))))) (gNm 4) (sSeq (sSet 5 (mCall f_l_sign [false, false] (xsCons (xE (mCall f_l_all [false, false] (xsCons (xE (mVar 0)) (xsCons (xE (mVar 4)) xsNil)))) (xsCons (xE (mCall f_l_all [false, false] (xsCons (xE (mVar 1)) (xsCons (xE (mVar 4)) xsNil)))) xsNil)))) (sSeq (sIf (mTst (mBin gNeS (xE (mBlt gReprE (xsCons (xE (mCall f_l_caught [false, false, false] (xsCons (xE (mVar 2)) (xsCons (xE (mVar 3)) (xsCons (xE (mVar 4)) xsNil))))) xsNil))) (xE (mBlt gReprE (xsCons (xE (mLst (aCons (mC (.str "told")) (aCons (mVar 5) aNil)))) xsNil))))) (sRet (mC (.bl false))) sNil) (sIf (tAn (mTst (mBin gNe (xVar 4) (xE (mC (.str "units"))))) (mTst (mBin gNe (xVar 5) (xE (mCall f_l_sign [false, false] (xsCons (xE (mVar 0)) (xsCons (xE (mVar 1)) xsNil))))))) (sRet (mC (.bl false))) sNil)))) (sRet (mC (.bl true))))))
def f_l_pair_right : List D → Rz := runF [false, false] 6 m_l_pair_right
def m_law : Ms := (sSeq (sFor (iRn1 (mBlt gMax2 (xsCons (xE (mC (.int 2))) (xsCons (xE (mBlt gMin2 (xsCons (xE (mC (.int 8))) (xsCons (xE (mBlt gLen (xsCons (xVar 0) xsNil))) xsNil)))) xsNil)))) (gNm 1) (sSeq (sSetO 2 (mCall f_l_bag [false] (xsCons (xE (mCall f_l_cell [false, false] (xsCons (xE (mVar 0)) (xsCons (xE (mVar 1)) xsNil)))) xsNil))) (sFor (iRn1 (mC (.int 4))) (gNm 3) (sSeq (sSet 4 (mCall f_l_chars [true, false] (xsCons (xVar 2) (xsCons (xE (mC (.int 4))) xsNil)))) (sSeq (sSetO 5 (mLst (aCons (mBin gAdd (xVar 4) (xE (mCall f_l_chars [true, false] (xsCons (xVar 2) (xsCons (xE (mC (.int 3))) xsNil))))) (aCons (mBin gAdd (xVar 4) (xE (mCall f_l_chars [true, false] (xsCons (xVar 2) (xsCons (xE (mC (.int 3))) xsNil))))) (aCons (mVar 4) (aCons (mCall f_l_chars [true, false] (xsCons (xVar 2) (xsCons (xE (mC (.int 6))) xsNil))) aNil)))))) (sSeq (sApp 5 (mBin gAdd (xE (mBin gAdd (xVar 4) (xE (mLst (aCons (mBin gSub (xE (mC (.int 65535))) (xE (mCall f_l_take [true, false] (xsCons (xVar 2) (xsCons (xE (mC (.int 8192))) xsNil))))) aNil))))) (xE (mCall f_l_chars [true, false] (xsCons (xVar 2) (xsCons (xE (mC (.int 2))) xsNil)))))) (sSeq (sApp 5 (mBin gAdd (xVar 4) (xE (mLst (aCons (mBin gAdd (xE (mC (.int 65536))) (xE (mCall f_l_take [true, false] (xsCons (xVar 2) (xsCons (xE (mC (.int 1024))) xsNil))))) aNil))))) (sSeq (sFor (iSeq (mFrz 5)) (gNm 6) (sIf (mTst (mBin gNe (xE (mLc (iSeq (mFrz 5)) (gNm 7) (tNt (mTst (mCall f_l_pair_right [false, false] (xsCons (xE (mVar 6)) (xsCons (xE (mVar 7)) xsNil))))) (mVar 7) (List.map (fun x => x.2) ([("_law_right", 7)] : List (PySem.Str × Nat))))) (xE (mLst aNil)))) (sRet (mC (.bl false))) sNil)) (sSeq (sSet 8 (mMake 0 1 f_Text_init (xsCons (xE (mBin gIx (xVar 5) (xE (mC (.int 0))))) xsNil))) (sFor (iSeq (mLst (aCons (mC .non) (aCons (mC (.bl true)) (aCons (mC (.int 7)) (aCons (mC (.str "ab")) (aCons (mBin gIx (xVar 5) (xE (mC (.int 0)))) (aCons mDct0 (aCons (mTup aNil) aNil))))))))) (gNm 9) (sSeq (sIf (tOrr (mTst (mBin (gNeE []) (xE (mCall f_l_caught [false, false, false] (xsCons (xE (mVar 9)) (xsCons (xE (mC .non)) (xsCons (xE (mC .non)) xsNil))))) (xE (mLst (aCons (mC (.str "text")) (aCons (mVar 9) aNil)))))) (mTst (mBin (gNeE []) (xE (mCall f_l_caught [false, false, false] (xsCons (xE (mVar 8)) (xsCons (xE (mVar 9)) (xsCons (xE (mC (.str "x"))) xsNil))))) (xE (mLst (aCons (mC (.str "text")) (aCons (mVar 9) aNil))))))) (sRet (mC (.bl false))) sNil) (sIf (mTst (mBin (gNeE []) (xE (mCall f_l_caught [false, false, false] (xsCons (xE (mVar 8)) (xsCons (xE (mVar 8)) (xsCons (xE (mVar 9)) xsNil))))) (xE (mLst (aCons (mC (.str "kind")) (aCons (mVar 9) aNil)))))) (sRet (mC (.bl false))) sNil)))))))))))) (sRet (mC (.bl true))))
def f_law : List D → Rz := runF [false] 10 m_law
section
variable {P : Program} {w : World} {K : PySem.W.Frag} {mg : Str → Option Value} {base : Heap} {A : Ads} (T : Txt K mg A)
include T
theorem GX_InvalidChar : FnOk P w K mg base (L2.CX P w) 1 A.n_InvalidChar A.d_InvalidChar ["self", "value"] (spXi A.C_InvalidChar ["value"]) := fn_xi1 T.F_InvalidChar sc_InvalidChar T.x_InvalidChar T.v_InvalidChar_value rfl (Or.inl rfl) (Or.inl rfl) rfl rfl
theorem GX_InvalidChars : FnOk P w K mg base (L2.CX P w) 1 A.n_InvalidChars A.d_InvalidChars ["self", "value"] (spXi A.C_InvalidChars ["value"]) := fn_xi1 T.F_InvalidChars sc_InvalidChars T.x_InvalidChars T.v_InvalidChars_value rfl (Or.inl rfl) (Or.inl rfl) rfl rfl
theorem GX_InvalidText : FnOk P w K mg base (L2.CX P w) 1 A.n_InvalidText A.d_InvalidText ["self", "value"] (spXi A.C_InvalidText ["value"]) := fn_xi1 T.F_InvalidText sc_InvalidText T.x_InvalidText T.v_InvalidText_value rfl (Or.inl rfl) (Or.inl rfl) rfl rfl
theorem GX_InvalidKind : FnOk P w K mg base (L2.CX P w) 1 A.n_InvalidKind A.d_InvalidKind ["self", "value"] (spXi A.C_InvalidKind ["value"]) := fn_xi1 T.F_InvalidKind sc_InvalidKind T.x_InvalidKind T.v_InvalidKind_value rfl (Or.inl rfl) (Or.inl rfl) rfl rfl
theorem GX_BadPlace : FnOk P w K mg base (L2.CX P w) 1 A.n_BadPlace A.d_BadPlace ["self", "number"] (spXi A.C_BadPlace ["number"]) := fn_xi1 T.F_BadPlace sc_BadPlace T.x_BadPlace T.v_BadPlace_number rfl (Or.inl rfl) (Or.inl rfl) rfl rfl
theorem G_l_bag : FnOk P w K mg base (L2.CX P w) 1 A.a_l_bag A.d_l_bag ["_law_cell_here"] (spF (lay K A) [false] true f_l_bag) :=
  fn_mean T.F_l_bag sc_l_bag rfl (by decide) (fun cdv A1 outer s H E hr => (imB_one (imS_retO (imO_lst (imA_cons (imE_blt (cd_max2 rfl) (by rfl) T.z_max (by decide +kernel) (imXs_cons (imX imE_int) (imXs_cons (imX (imE_bin od_sub (imX_var 0) (imX (imE_bin od_pow (imX imE_int) (imX imE_int))))) imXs_nil))) (imA_cons (imE_bin od_mod (imX_var 0) (imX imE_int)) (imA_cons imE_int imA_nil))))))) (fun _ ds e => neNx_ret _ e)
theorem G_l_cell : FnOk P w K mg base (L2.CX P w) 1 A.a_l_cell A.d_l_cell ["_law_script", "_law_index"] (spF (lay K A) [false, false] false f_l_cell) :=
  fn_mean T.F_l_cell sc_l_cell rfl (by decide) (fun cdv A1 outer s H E hr => (imB_cons (imS_if (imT_cmp (od_lt rfl (Room.u100 hr)) (imX_var 1) (imX (imE_blt (cd_len rfl) (by rfl) T.z_len (by decide +kernel) (imXs_cons (imX_var 0) imXs_nil)))) (imB_one (imS_ret (imE_ix (xd_ix rfl) (imX_var 0) (imX_var 1)))) imB_nil) (imB_one (imS_ret (imE_bin (od_add rfl) (imX (imE_bin od_mul (imX imE_int) (imX_var 1))) (imX imE_int)))))) (fun h => Bool.noConfusion h)
theorem G_l_take : FnOk P w K mg base (L2.CX P w) 1 A.a_l_take A.d_l_take ["_law_bag_here", "_law_many"] (spF (lay K A) [true, false] false f_l_take) :=
  fn_mean T.F_l_take sc_l_take rfl (by decide) (fun cdv A1 outer s H E hr => (imB_cons (imS_if (imT_cmp od_gt (imX (imE_ix (xd_ix rfl) (imX_var 0) (imX imE_int))) (imX imE_int)) (imB_cons (imS_set 2 sc_l_take.nd (imE_bin od_mod (imX (imE_ix (xd_ix rfl) (imX_var 0) (imX imE_int))) (imX_var 1))) (imB_cons (imS_put 0 (imE_bin od_div (imX (imE_ix (xd_ix rfl) (imX_var 0) (imX imE_int))) (imX_var 1)) imE_int) (imB_one (imS_ret (imE_var 2))))) imB_nil) (imB_cons (imS_put 0 (imE_bin (od_add rfl) (imX (imE_ix (xd_ix rfl) (imX_var 0) (imX imE_int))) (imX imE_int)) imE_int) (imB_cons (imS_set 3 sc_l_take.nd (imE_bin od_mod (imX (imE_bin od_pow (imX (imE_bin (od_add rfl) (imX (imE_bin (od_add rfl) (imX (imE_ix (xd_ix rfl) (imX_var 0) (imX imE_int))) (imX (imE_bin od_mul (imX imE_int) (imX (imE_ix (xd_ix rfl) (imX_var 0) (imX imE_int))))))) (imX imE_int))) (imX imE_int))) (imX imE_int))) (imB_cons (imS_set 3 sc_l_take.nd (imE_bin od_mod (imX (imE_bin od_pow (imX (imE_bin (od_add rfl) (imX_var 3) (imX (imE_bin od_mul (imX imE_int) (imX (imE_ix (xd_ix rfl) (imX_var 0) (imX imE_int))))))) (imX imE_int))) (imX imE_int))) (imB_one (imS_ret (imE_bin od_mod (imX (imE_bin od_div (imX_var 3) (imX imE_int))) (imX_var 1))))))))) (fun h => Bool.noConfusion h)
theorem G_l_char : FnOk P w K mg base (L2.CX P w) 2 A.a_l_char A.d_l_char ["_law_bag_here"] (spF (lay K A) [true] false f_l_char) :=
  fn_mean T.F_l_char sc_l_char rfl (by decide) (fun cdv A1 outer s H E hr => (imB_cons (imS_set 1 sc_l_char.nd (imE_of (imO_lst (imA_cons imE_int (imA_cons imE_int (imA_cons imE_int (imA_cons imE_int (imA_cons imE_int (imA_cons imE_int (imA_cons imE_int (imA_cons imE_int (imA_cons imE_int (imA_cons imE_int (imA_cons imE_int (imA_cons imE_int (imA_cons imE_int imA_nil)))))))))))))))) (imB_cons (imS_if (imT_cmp (od_eq rfl (Room.u100 hr)) (imX (imE_call (G_l_take T) (hr.mono (by decide)) (by rfl) T.g_l_take T.F_l_take.kp T.b_l_take (pass_at (takes_of rfl rfl rfl rfl)) (imXs_cons (imX_var 0) (imXs_cons (imX imE_int) imXs_nil)))) (imX imE_int)) (imB_one (imS_ret (imE_ix (xd_ix rfl) (imX_var 1) (imX (imE_call (G_l_take T) (hr.mono (by decide)) (by rfl) T.g_l_take T.F_l_take.kp T.b_l_take (pass_at (takes_of rfl rfl rfl rfl)) (imXs_cons (imX_var 0) (imXs_cons (imX imE_int) imXs_nil))))))) imB_nil) (imB_cons (imS_asg (imG_tup rfl rfl (imGs_cons (imG_name 2 sc_l_char.nd) (imGs_cons (imG_name 3 sc_l_char.nd) imGs_nil))) (imE_ix (xd_ix rfl) (imX (imE_of (imO_lst (imA_cons (imE_tup (imA_cons imE_int (imA_cons imE_int imA_nil))) (imA_cons (imE_tup (imA_cons imE_int (imA_cons imE_int imA_nil))) (imA_cons (imE_tup (imA_cons imE_int (imA_cons imE_int imA_nil))) (imA_cons (imE_tup (imA_cons imE_int (imA_cons imE_int imA_nil))) (imA_cons (imE_tup (imA_cons imE_int (imA_cons imE_int imA_nil))) imA_nil)))))))) (imX (imE_call (G_l_take T) (hr.mono (by decide)) (by rfl) T.g_l_take T.F_l_take.kp T.b_l_take (pass_at (takes_of rfl rfl rfl rfl)) (imXs_cons (imX_var 0) (imXs_cons (imX imE_int) imXs_nil)))))) (imB_one (imS_ret (imE_bin (od_add rfl) (imX_var 2) (imX (imE_call (G_l_take T) (hr.mono (by decide)) (by rfl) T.g_l_take T.F_l_take.kp T.b_l_take (pass_at (takes_of rfl rfl rfl rfl)) (imXs_cons (imX_var 0) (imXs_cons (imX (imE_bin (od_add rfl) (imX (imE_bin od_sub (imX_var 3) (imX_var 2))) (imX imE_int))) imXs_nil))))))))))) (fun h => Bool.noConfusion h)
theorem G_l_chars : FnOk P w K mg base (L2.CX P w) 3 A.a_l_chars A.d_l_chars ["_law_bag_here", "_law_most"] (spF (lay K A) [true, false] false f_l_chars) :=
  fn_mean T.F_l_chars sc_l_chars rfl (by decide) (fun cdv A1 outer s H E hr => (imB_one (imS_ret (imE_of (imO_lc rfl sc_l_chars.nd (imI_range1 (imE_call (G_l_take T) (hr.mono (by decide)) (by rfl) T.g_l_take T.F_l_take.kp T.b_l_take (pass_at (takes_of rfl rfl rfl rfl)) (imXs_cons (imX_var 0) (imXs_cons (imX (imE_bin (od_add rfl) (imX_var 1) (imX imE_int))) imXs_nil))) (by rfl) T.z_range) (blkOk_by (own := [("_law_index", 2)]) (N := ["_law_bag_here", "_law_most", "_law_index"]) (sc := defScope s_l_chars) (by decide +kernel)) (fun _ _ _ _ _ => (imG_name 2 sc_l_chars.nd)) (fun _ _ _ _ _ => imTs_nil) (fun _ _ _ _ _ => (imE_call (G_l_char T) (hr.mono (by decide)) (by rfl) T.g_l_char T.F_l_char.kp T.b_l_char pass_no (imXs_cons (imX_var 0) imXs_nil)))))))) (fun h => Bool.noConfusion h)
theorem G_is_list : FnOk P w K mg base (L2.CX P w) 1 A.a_is_list A.d_is_list ["value"] (spF (lay K A) [false] false f_is_list) :=
  fn_mean T.F_is_list sc_is_list rfl (by decide) (fun cdv A1 outer s H E hr => (imB_one (imS_ret (imE_isi2 (isiB2 (by decide +kernel) (all_cons ⟨_, rfl, T.q_Text_list, T.q_Text_tuple, rfl, T.is_Text⟩ all_nil)) rfl (.ty "list") (.ty "tuple") (pe_bltn (by rfl) T.z_list (by decide +kernel) (v := .ty "list") rfl) (pe_bltn (by rfl) T.z_tuple (by decide +kernel) (v := .ty "tuple") rfl) (by rfl) T.z_isinstance (imX_var 0))))) (fun h => Bool.noConfusion h)
theorem G_is_whole : FnOk P w K mg base (L2.CX P w) 1 A.a_is_whole A.d_is_whole ["value"] (spF (lay K A) [false] false f_is_whole) :=
  fn_mean T.F_is_whole sc_is_whole rfl (by decide) (fun cdv A1 outer s H E hr => (imB_one (imS_ret (imE_and (imE_isi (isiB (by decide +kernel) (all_cons ⟨_, rfl, T.q_Text_int, T.is_Text⟩ all_nil)) rfl (.ty "int") (pe_bltn (by rfl) T.z_int (by decide +kernel) (v := .ty "int") rfl) (by rfl) T.z_isinstance (imX_var 0)) (imE_one (imE_not (imE_isi (isiB (by decide +kernel) (all_cons ⟨_, rfl, T.q_Text_bool, T.is_Text⟩ all_nil)) rfl (.ty "bool") (pe_bltn (by rfl) T.z_bool (by decide +kernel) (v := .ty "bool") rfl) (by rfl) T.z_isinstance (imX_var 0)))))))) (fun h => Bool.noConfusion h)
theorem G_is_integer : FnOk P w K mg base (L2.CX P w) 2 A.a_is_integer A.d_is_integer ["value", "low", "high"] (spF (lay K A) [false, false, false] false f_is_integer) :=
  fn_mean T.F_is_integer sc_is_integer rfl (by decide) (fun cdv A1 outer s H E hr => (imB_one (imS_ret (imE_and (imE_call (G_is_whole T) (hr.mono (by decide)) (by rfl) T.g_is_whole T.F_is_whole.kp T.b_is_whole (pass_at (takes_of rfl rfl rfl rfl)) (imXs_cons (imX (imE_var 0)) imXs_nil)) (imE_one (imE_chain od_leI od_leI (imX_var 1) (imX_var 0) (imX_var 2))))))) (fun h => Bool.noConfusion h)
theorem G_is_char : FnOk P w K mg base (L2.CX P w) 3 A.a_is_char A.d_is_char ["value"] (spF (lay K A) [false] false f_is_char) :=
  fn_mean T.F_is_char sc_is_char rfl (by decide) (fun cdv A1 outer s H E hr => (imB_cons (imS_if (imT_not (imT_val (imE_call (G_is_integer T) (hr.mono (by decide)) (by rfl) T.g_is_integer T.F_is_integer.kp T.b_is_integer (pass_at (takes_of rfl rfl rfl rfl)) (imXs_cons (imX (imE_var 0)) (imXs_cons (imX imE_int) (imXs_cons (imX (imE_gint T.c_LAST_CHAR.choose_spec)) imXs_nil)))))) (imB_one (imS_ret imE_bl)) imB_nil) (imB_one (imS_ret (imE_not (imE_chain od_leI od_leI (imX (imE_gint T.c_FIRST_SURROGATE.choose_spec)) (imX_var 0) (imX (imE_gint T.c_LAST_SURROGATE.choose_spec)))))))) (fun h => Bool.noConfusion h)
theorem G_check_char : FnOk P w K mg base (L2.CX P w) 4 A.a_check_char A.d_check_char ["char"] (spF (lay K A) [false] false f_check_char) :=
  fn_mean T.F_check_char sc_check_char rfl (by decide) (fun cdv A1 outer s H E hr => (imB_one (imS_if (imT_not (imT_val (imE_call (G_is_char T) (hr.mono (by decide)) (by rfl) T.g_is_char T.F_is_char.kp T.b_is_char (pass_at (takes_of rfl rfl rfl rfl)) (imXs_cons (imX (imE_var 0)) imXs_nil)))) (imB_one (imS_raise (fs := ["value"]) rfl (takes_of rfl rfl rfl rfl) (fun _ _ _ _ h => h) rfl (And.intro rfl trivial) T.x_InvalidChar T.i_InvalidChar T.t_InvalidChar (GX_InvalidChar T) (hr.mono (by decide)) T.b_InvalidChar (by rfl) T.g_InvalidChar (imA_cons (imE_var 0) imA_nil) rfl (by decide))) imB_nil))) (fun h => Bool.noConfusion h)
theorem G_check_chars : FnOk P w K mg base (L2.CX P w) 5 A.a_check_chars A.d_check_chars ["chars"] (spF (lay K A) [false] false f_check_chars) :=
  fn_mean T.F_check_chars sc_check_chars rfl (by decide) (fun cdv A1 outer s H E hr => (imB_cons (imS_if (imT_not (imT_val (imE_call (G_is_list T) (hr.mono (by decide)) (by rfl) T.g_is_list T.F_is_list.kp T.b_is_list (pass_at (takes_of rfl rfl rfl rfl)) (imXs_cons (imX (imE_var 0)) imXs_nil)))) (imB_one (imS_raise (fs := ["value"]) rfl (takes_of rfl rfl rfl rfl) (fun _ _ _ _ h => h) rfl (And.intro rfl trivial) T.x_InvalidChars T.i_InvalidChars T.t_InvalidChars (GX_InvalidChars T) (hr.mono (by decide)) T.b_InvalidChars (by rfl) T.g_InvalidChars (imA_cons (imE_var 0) imA_nil) rfl (by decide))) imB_nil) (imB_one (imS_for (passes_of rfl) rfl (imI_seq rfl (imE_var 0)) (imG_name 1 sc_check_chars.nd) (imB_one (imS_expr (imE_call (G_check_char T) (hr.mono (by decide)) (by rfl) T.g_check_char T.F_check_char.kp T.b_check_char (pass_at (takes_of rfl rfl rfl rfl)) (imXs_cons (imX (imE_var 1)) imXs_nil)))))))) (fun h => Bool.noConfusion h)
theorem G_Text_init : FnOk P w K mg base (L2.CX P w) 6 A.a_Text_init A.d_Text_init ["self", "chars"] (spF (lay K A) (true :: List.replicate 1 false) false f_Text_init) :=
  fn_mean T.F_Text_init sc_Text_init rfl (by decide) (fun cdv A1 outer s H E hr => (imB_cons (imS_expr (imE_call (G_check_chars T) (hr.mono (by decide)) (by rfl) T.g_check_chars T.F_check_chars.kp T.b_check_chars (pass_at (takes_of rfl rfl rfl rfl)) (imXs_cons (imX (imE_var 1)) imXs_nil))) (imB_one (imS_fld 0 (cf_Text T) rfl T.n_Text_points (imE_bltT (cd_tuple rfl) (by rfl) T.z_tuple (by decide +kernel) (imXs_cons (imX_var 1) imXs_nil)))))) (fun h => Bool.noConfusion h)
theorem G_Text_gt : FnOk P w K mg base (L2.CX P w) 1 A.a_Text_gt A.d_Text_gt ["self", "other"] (spF (lay K A) [false, false] false f_Text_gt) :=
  fn_mean T.F_Text_gt sc_Text_gt rfl (by decide) (fun cdv A1 outer s H E hr => (imB_cons (imS_if (imT_not (imT_val (imE_isi (isiO (all_cons T.o_Text_NoneType (all_cons T.o_Text_bool (all_cons T.o_Text_int (all_cons T.o_Text_str (all_cons T.o_Text_list (all_cons T.o_Text_tuple (all_cons T.o_Text_dict all_nil))))))) (all_cons ⟨_, rfl, kit_self, T.is_Text⟩ all_nil)) rfl (.own _) (pe_glob (by rfl) T.g_Text (v := .ref A.C_Text) rfl) (by rfl) T.z_isinstance (imX_var 1)))) (imB_one (imS_ret imE_dead)) imB_nil) (imB_one (imS_ret (imE_cmp (od_gtD rfl (Room.u100 hr)) (imX (imE_fld (cf_Text T) rfl T.n_Text_points (imX_var 0))) (imX (imE_fld (cf_Text T) rfl T.n_Text_points (imX_var 1)))))))) (fun h => Bool.noConfusion h)
theorem G_Text_lt : FnOk P w K mg base (L2.CX P w) 1 A.a_Text_lt A.d_Text_lt ["self", "other"] (spF (lay K A) [false, false] false f_Text_lt) :=
  fn_mean T.F_Text_lt sc_Text_lt rfl (by decide) (fun cdv A1 outer s H E hr => (imB_cons (imS_if (imT_not (imT_val (imE_isi (isiO (all_cons T.o_Text_NoneType (all_cons T.o_Text_bool (all_cons T.o_Text_int (all_cons T.o_Text_str (all_cons T.o_Text_list (all_cons T.o_Text_tuple (all_cons T.o_Text_dict all_nil))))))) (all_cons ⟨_, rfl, kit_self, T.is_Text⟩ all_nil)) rfl (.own _) (pe_glob (by rfl) T.g_Text (v := .ref A.C_Text) rfl) (by rfl) T.z_isinstance (imX_var 1)))) (imB_one (imS_ret imE_dead)) imB_nil) (imB_one (imS_ret (imE_cmp (od_ltD rfl (Room.u100 hr)) (imX (imE_fld (cf_Text T) rfl T.n_Text_points (imX_var 0))) (imX (imE_fld (cf_Text T) rfl T.n_Text_points (imX_var 1)))))))) (fun h => Bool.noConfusion h)
theorem G_l_sign : FnOk P w K mg base (L2.CX P w) 1 A.a_l_sign A.d_l_sign ["_law_one", "_law_other"] (spF (lay K A) [false, false] false f_l_sign) :=
  fn_mean T.F_l_sign sc_l_sign rfl (by decide) (fun cdv A1 outer s H E hr => (imB_one (imS_ret (imE_bin od_sub (imX (imE_bltT cd_int (by rfl) T.z_int (by decide +kernel) (imXs_cons (imX (imE_cmp (od_gtD rfl (Room.u100 hr)) (imX_var 0) (imX_var 1))) imXs_nil))) (imX (imE_bltT cd_int (by rfl) T.z_int (by decide +kernel) (imXs_cons (imX (imE_cmp (od_ltD rfl (Room.u100 hr)) (imX_var 0) (imX_var 1))) imXs_nil))))))) (fun h => Bool.noConfusion h)
theorem G_is_kind : FnOk P w K mg base (L2.CX P w) 1 A.a_is_kind A.d_is_kind ["value"] (spF (lay K A) [false] false f_is_kind) :=
  fn_mean T.F_is_kind sc_is_kind rfl (by decide) (fun cdv A1 outer s H E hr => (imB_one (imS_ret (imE_and (imE_isi (isiB (by decide +kernel) (all_cons ⟨_, rfl, T.q_Text_str, T.is_Text⟩ all_nil)) rfl (.ty "str") (pe_bltn (by rfl) T.z_str (by decide +kernel) (v := .ty "str") rfl) (by rfl) T.z_isinstance (imX_var 0)) (imE_one (imE_cmp (od_in rfl) (imX_var 0) (imX (imE_gtup T.g_KINDS T.s_KINDS (fun _ => (.cons (.str _) (.cons (.str _) (.cons (.str _) .nil)))))))))))) (fun h => Bool.noConfusion h)
theorem G_check_kind : FnOk P w K mg base (L2.CX P w) 3 A.a_check_kind A.d_check_kind ["kind"] (spF (lay K A) [false] false f_check_kind) :=
  fn_mean T.F_check_kind sc_check_kind rfl (by decide) (fun cdv A1 outer s H E hr => (imB_one (imS_if (imT_not (imT_val (imE_call (G_is_kind T) (hr.mono (by decide)) (by rfl) T.g_is_kind T.F_is_kind.kp T.b_is_kind (pass_at (takes_of rfl rfl rfl rfl)) (imXs_cons (imX (imE_var 0)) imXs_nil)))) (imB_one (imS_raise (fs := ["value"]) rfl (takes_of rfl rfl rfl rfl) (fun _ _ _ _ h => h) rfl (And.intro rfl trivial) T.x_InvalidKind T.i_InvalidKind T.t_InvalidKind (GX_InvalidKind T) (hr.mono (by decide)) T.b_InvalidKind (by rfl) T.g_InvalidKind (imA_cons (imE_var 0) imA_nil) rfl (by decide))) imB_nil))) (fun h => Bool.noConfusion h)
theorem G_byte_width : FnOk P w K mg base (L2.CX P w) 1 A.a_byte_width A.d_byte_width ["char"] (spF (lay K A) [false] false f_byte_width) :=
  fn_mean T.F_byte_width sc_byte_width rfl (by decide) (fun cdv A1 outer s H E hr => (imB_cons (imS_if (imT_cmp (od_lt rfl (Room.u100 hr)) (imX_var 0) (imX imE_int)) (imB_one (imS_ret imE_int)) imB_nil) (imB_cons (imS_if (imT_cmp (od_lt rfl (Room.u100 hr)) (imX_var 0) (imX imE_int)) (imB_one (imS_ret imE_int)) imB_nil) (imB_cons (imS_if (imT_cmp (od_lt rfl (Room.u100 hr)) (imX_var 0) (imX (imE_gint T.c_FIRST_WIDE.choose_spec))) (imB_one (imS_ret imE_int)) imB_nil) (imB_one (imS_ret imE_int)))))) (fun h => Bool.noConfusion h)
theorem G_byte_items : FnOk P w K mg base (L2.CX P w) 2 A.a_byte_items A.d_byte_items ["char"] (spF (lay K A) [false] false f_byte_items) :=
  fn_mean T.F_byte_items sc_byte_items rfl (by decide) (fun cdv A1 outer s H E hr => (imB_cons (imS_set 1 sc_byte_items.nd (imE_call (G_byte_width T) (hr.mono (by decide)) (by rfl) T.g_byte_width T.F_byte_width.kp T.b_byte_width (pass_at (takes_of rfl rfl rfl rfl)) (imXs_cons (imX (imE_var 0)) imXs_nil))) (imB_cons (imS_set 2 sc_byte_items.nd (imE_of (imO_lst imA_nil))) (imB_cons (imS_set 3 sc_byte_items.nd (imE_var 0)) (imB_cons (imS_while (fun _ => 10) (passes_of rfl) (imT_cmp (od_lt rfl (Room.u100 hr)) (imX (imE_blt (cd_len rfl) (by rfl) T.z_len (by decide +kernel) (imXs_cons (imX_var 2) imXs_nil))) (imX (imE_bin od_sub (imX_var 1) (imX imE_int)))) (imB_cons (imS_set 2 sc_byte_items.nd (imE_of (imO_bin oo_cat (imX (imE_of (imO_lst (imA_cons (imE_bin (od_add rfl) (imX (imE_gint T.c_NEXT_BYTE.choose_spec)) (imX (imE_bin od_mod (imX_var 3) (imX (imE_gint T.c_BYTE_SHARE.choose_spec))))) imA_nil)))) (imX_var 2)))) (imB_one (imS_set 3 sc_byte_items.nd (imE_bin od_div (imX_var 3) (imX (imE_gint T.c_BYTE_SHARE.choose_spec))))))) (imB_one (imS_ret (imE_of (imO_bin oo_cat (imX (imE_of (imO_lst (imA_cons (imE_bin (od_add rfl) (imX (imE_tab T.s_FIRST_BYTES T.g_FIRST_BYTES (imX_var 1))) (imX_var 3)) imA_nil)))) (imX_var 2)))))))))) (fun h => Bool.noConfusion h)
theorem G_unit_items : FnOk P w K mg base (L2.CX P w) 1 A.a_unit_items A.d_unit_items ["char"] (spF (lay K A) [false] false f_unit_items) :=
  fn_mean T.F_unit_items sc_unit_items rfl (by decide) (fun cdv A1 outer s H E hr => (imB_cons (imS_if (imT_cmp (od_lt rfl (Room.u100 hr)) (imX_var 0) (imX (imE_gint T.c_FIRST_WIDE.choose_spec))) (imB_one (imS_ret (imE_of (imO_lst (imA_cons (imE_var 0) imA_nil))))) imB_nil) (imB_cons (imS_set 1 sc_unit_items.nd (imE_bin od_sub (imX_var 0) (imX (imE_gint T.c_FIRST_WIDE.choose_spec)))) (imB_one (imS_ret (imE_of (imO_lst (imA_cons (imE_bin (od_add rfl) (imX (imE_gint T.c_HIGH_UNIT.choose_spec)) (imX (imE_bin od_div (imX_var 1) (imX (imE_gint T.c_UNIT_SHARE.choose_spec))))) (imA_cons (imE_bin (od_add rfl) (imX (imE_gint T.c_LOW_UNIT.choose_spec)) (imX (imE_bin od_mod (imX_var 1) (imX (imE_gint T.c_UNIT_SHARE.choose_spec))))) imA_nil))))))))) (fun h => Bool.noConfusion h)
theorem G_char_items : FnOk P w K mg base (L2.CX P w) 3 A.a_char_items A.d_char_items ["char", "kind"] (spF (lay K A) [false, false] false f_char_items) :=
  fn_mean T.F_char_items sc_char_items rfl (by decide) (fun cdv A1 outer s H E hr => (imB_cons (imS_if (imT_cmp (od_eq rfl (Room.u100 hr)) (imX_var 1) (imX imE_str)) (imB_one (imS_ret (imE_call (G_byte_items T) (hr.mono (by decide)) (by rfl) T.g_byte_items T.F_byte_items.kp T.b_byte_items (pass_at (takes_of rfl rfl rfl rfl)) (imXs_cons (imX (imE_var 0)) imXs_nil)))) imB_nil) (imB_cons (imS_if (imT_cmp (od_eq rfl (Room.u100 hr)) (imX_var 1) (imX imE_str)) (imB_one (imS_ret (imE_call (G_unit_items T) (hr.mono (by decide)) (by rfl) T.g_unit_items T.F_unit_items.kp T.b_unit_items (pass_at (takes_of rfl rfl rfl rfl)) (imXs_cons (imX (imE_var 0)) imXs_nil)))) imB_nil) (imB_one (imS_ret (imE_of (imO_lst (imA_cons (imE_var 0) imA_nil)))))))) (fun h => Bool.noConfusion h)
theorem G_items : FnOk P w K mg base (L2.CX P w) 5 A.a_items A.d_items ["char", "kind"] (spF (lay K A) [false, false] false f_items) :=
  fn_mean T.F_items sc_items rfl (by decide) (fun cdv A1 outer s H E hr => (imB_cons (imS_expr (imE_call (G_check_char T) (hr.mono (by decide)) (by rfl) T.g_check_char T.F_check_char.kp T.b_check_char (pass_at (takes_of rfl rfl rfl rfl)) (imXs_cons (imX (imE_var 0)) imXs_nil))) (imB_cons (imS_expr (imE_call (G_check_kind T) (hr.mono (by decide)) (by rfl) T.g_check_kind T.F_check_kind.kp T.b_check_kind (pass_at (takes_of rfl rfl rfl rfl)) (imXs_cons (imX (imE_var 1)) imXs_nil))) (imB_one (imS_ret (imE_call (G_char_items T) (hr.mono (by decide)) (by rfl) T.g_char_items T.F_char_items.kp T.b_char_items (pass_at (takes_of rfl rfl rfl rfl)) (imXs_cons (imX (imE_var 0)) (imXs_cons (imX (imE_var 1)) imXs_nil)))))))) (fun h => Bool.noConfusion h)
theorem G_l_all : FnOk P w K mg base (L2.CX P w) 6 A.a_l_all A.d_l_all ["_law_chars_here", "_law_kind"] (spF (lay K A) [false, false] false f_l_all) :=
  fn_mean T.F_l_all sc_l_all rfl (by decide) (fun cdv A1 outer s H E hr => (imB_cons (imS_setO 2 sc_l_all.nd (imO_lst imA_nil)) (imB_cons (imS_for (passes_of rfl) rfl (imI_seq rfl (imE_var 0)) (imG_name 3 sc_l_all.nd) (imB_one (imS_extend 2 (imX (imE_call (G_items T) (hr.mono (by decide)) (by rfl) T.g_items T.F_items.kp T.b_items (pass_at (takes_of rfl rfl rfl rfl)) (imXs_cons (imX (imE_var 3)) (imXs_cons (imX (imE_var 1)) imXs_nil))))))) (imB_one (imS_ret (imE_frz 2)))))) (fun h => Bool.noConfusion h)
theorem G_check_text : FnOk P w K mg base (L2.CX P w) 3 A.a_check_text A.d_check_text ["text"] (spF (lay K A) [false] false f_check_text) :=
  fn_mean T.F_check_text sc_check_text rfl (by decide) (fun cdv A1 outer s H E hr => (imB_one (imS_if (imT_not (imT_val (imE_isi (isiO (all_cons T.o_Text_NoneType (all_cons T.o_Text_bool (all_cons T.o_Text_int (all_cons T.o_Text_str (all_cons T.o_Text_list (all_cons T.o_Text_tuple (all_cons T.o_Text_dict all_nil))))))) (all_cons ⟨_, rfl, kit_self, T.is_Text⟩ all_nil)) rfl (.own _) (pe_glob (by rfl) T.g_Text (v := .ref A.C_Text) rfl) (by rfl) T.z_isinstance (imX_var 0)))) (imB_one (imS_raise (fs := ["value"]) rfl (takes_of rfl rfl rfl rfl) (fun _ _ _ _ h => h) rfl (And.intro rfl trivial) T.x_InvalidText T.i_InvalidText T.t_InvalidText (GX_InvalidText T) (hr.mono (by decide)) T.b_InvalidText (by rfl) T.g_InvalidText (imA_cons (imE_var 0) imA_nil) rfl (by decide))) imB_nil))) (fun h => Bool.noConfusion h)
theorem G_Text_chars : FnOk P w K mg base (L2.CX P w) 1 A.a_Text_chars A.d_Text_chars ["self"] (spF (lay K A) [false] false f_Text_chars) :=
  fn_mean T.F_Text_chars sc_Text_chars rfl (by decide) (fun cdv A1 outer s H E hr => (imB_one (imS_ret (imE_of (imO_bltT (co_list rfl) (by rfl) T.z_list (by decide +kernel) (imXs_cons (imX (imE_fld (cf_Text T) rfl T.n_Text_points (imX_var 0))) imXs_nil)))))) (fun h => Bool.noConfusion h)
theorem G_text_items : FnOk P w K mg base (L2.CX P w) 4 A.a_text_items A.d_text_items ["text", "kind"] (spF (lay K A) [false, false] false f_text_items) :=
  fn_mean T.F_text_items sc_text_items rfl (by decide) (fun cdv A1 outer s H E hr => (imB_one (imS_ret (imE_of (imO_lc2 (vs1 := [3]) rfl sc_text_items.nd (imI_seq rfl (imE_meth0 (cf_Text T) nn_chars T.m_Text_chars (G_Text_chars T) (hr.mono (by decide)) T.b_Text_chars (pass_at (takes_of rfl rfl rfl rfl)) (imX (imE_var 0)))) (blkOk_by (own := [("char", 2), ("item", 3)]) (N := ["text", "kind", "char", "item"]) (sc := defScope s_text_items) (by decide +kernel)) (fun _ _ _ _ _ => (imG_name 2 sc_text_items.nd)) (fun _ _ _ _ _ => imTs_nil) (fun _ _ _ _ _ => (imI_seq rfl (imE_call (G_char_items T) (hr.mono (by decide)) (by rfl) T.g_char_items T.F_char_items.kp T.b_char_items pass_no (imXs_cons (imX (imE_var 2)) (imXs_cons (imX (imE_var 1)) imXs_nil))))) (fun _ _ _ _ _ => (imG_name 3 sc_text_items.nd)) (fun _ _ _ _ _ => imTs_nil) (fun _ _ _ _ _ => (imE_var 3))))))) (fun h => Bool.noConfusion h)
theorem G_compare : FnOk P w K mg base (L2.CX P w) 5 A.a_compare A.d_compare ["one", "other", "kind"] (spF (lay K A) [false, false, false] false f_compare) :=
  fn_mean T.F_compare sc_compare rfl (by decide) (fun cdv A1 outer s H E hr => (imB_cons (imS_expr (imE_call (G_check_text T) (hr.mono (by decide)) (by rfl) T.g_check_text T.F_check_text.kp T.b_check_text (pass_at (takes_of rfl rfl rfl rfl)) (imXs_cons (imX (imE_var 0)) imXs_nil))) (imB_cons (imS_expr (imE_call (G_check_text T) (hr.mono (by decide)) (by rfl) T.g_check_text T.F_check_text.kp T.b_check_text (pass_at (takes_of rfl rfl rfl rfl)) (imXs_cons (imX (imE_var 1)) imXs_nil))) (imB_cons (imS_expr (imE_call (G_check_kind T) (hr.mono (by decide)) (by rfl) T.g_check_kind T.F_check_kind.kp T.b_check_kind (pass_at (takes_of rfl rfl rfl rfl)) (imXs_cons (imX (imE_var 2)) imXs_nil))) (imB_cons (imS_set 3 sc_compare.nd (imE_call (G_text_items T) (hr.mono (by decide)) (by rfl) T.g_text_items T.F_text_items.kp T.b_text_items (pass_at (takes_of rfl rfl rfl rfl)) (imXs_cons (imX (imE_var 0)) (imXs_cons (imX (imE_var 2)) imXs_nil)))) (imB_cons (imS_set 4 sc_compare.nd (imE_call (G_text_items T) (hr.mono (by decide)) (by rfl) T.g_text_items T.F_text_items.kp T.b_text_items (pass_at (takes_of rfl rfl rfl rfl)) (imXs_cons (imX (imE_var 1)) (imXs_cons (imX (imE_var 2)) imXs_nil)))) (imB_cons (imS_if (imT_cmp (od_ltD rfl (Room.u100 hr)) (imX_var 3) (imX_var 4)) (imB_one (imS_ret (imE_un ud_neg (imX imE_int)))) imB_nil) (imB_cons (imS_if (imT_cmp (od_gtD rfl (Room.u100 hr)) (imX_var 3) (imX_var 4)) (imB_one (imS_ret imE_int)) imB_nil) (imB_one (imS_ret imE_int)))))))))) (fun h => Bool.noConfusion h)
theorem G_l_caught : FnOk P w K mg base (L2.CX P w) 6 A.a_l_caught A.d_l_caught ["_law_one", "_law_other", "_law_kind"] (spF (lay K A) [false, false, false] false f_l_caught) :=
  fn_mean T.F_l_caught sc_l_caught rfl (by decide) (fun cdv A1 outer s H E hr => (imB_one (imS_try rfl rfl (fun W pn xe tk po => (imB_one (imS_ret (imE_of (imO_lst (imA_cons imE_str (imA_cons (imE_call (G_compare T) (hr.mono (by decide)) (by rfl) T.g_compare T.F_compare.kp T.b_compare (fun σ => passAt tk σ) (imXs_cons (imX (imE_var 0)) (imXs_cons (imX (imE_var 1)) (imXs_cons (imX (imE_var 2)) imXs_nil)))) imA_nil))))))) (HlOk.co sc_l_caught.nd rfl rfl ⟨rfl, by decide, .inl T.g_InvalidText⟩ (fun a ob cl d pn hz hf => pss_one (ps_ret (pe_lst (pa_cons pe_str (pa_cons (by exact (pe_xf T.f_InvalidText T.v_InvalidText_value hz hf (pe_var (i := 3) rfl (by first | exact Or.inl rfl | exact Or.inr (Or.inl rfl) | exact Or.inr (Or.inr rfl))))) pa_nil))))) (HlOk.co sc_l_caught.nd rfl rfl ⟨rfl, by decide, .inl T.g_InvalidKind⟩ (fun a ob cl d pn hz hf => pss_one (ps_ret (pe_lst (pa_cons pe_str (pa_cons (by exact (pe_xf T.f_InvalidKind T.v_InvalidKind_value hz hf (pe_var (i := 3) rfl (by first | exact Or.inl rfl | exact Or.inr (Or.inl rfl) | exact Or.inr (Or.inr rfl))))) pa_nil))))) HlOk.no)) (.one ⟨rfl, (all_cons ⟨_, rfl, T.e_InvalidChar_InvalidText⟩ (all_cons ⟨_, rfl, T.e_InvalidChars_InvalidText⟩ (all_cons ⟨_, rfl, T.e_InvalidText_InvalidText⟩ (all_cons ⟨_, rfl, T.e_InvalidKind_InvalidText⟩ (all_cons ⟨_, rfl, T.e_BadPlace_InvalidText⟩ all_nil)))))⟩ rfl (.one ⟨rfl, (all_cons ⟨_, rfl, T.e_InvalidChar_InvalidKind⟩ (all_cons ⟨_, rfl, T.e_InvalidChars_InvalidKind⟩ (all_cons ⟨_, rfl, T.e_InvalidText_InvalidKind⟩ (all_cons ⟨_, rfl, T.e_InvalidKind_InvalidKind⟩ (all_cons ⟨_, rfl, T.e_BadPlace_InvalidKind⟩ all_nil)))))⟩ rfl .no))))) (fun h => Bool.noConfusion h)
theorem G_l_pair_right (hS : SysD base) : FnG P w K mg base (L2.CX P w) 8 A.a_l_pair_right A.d_l_pair_right ["_law_left", "_law_right"] (spF (lay K A) [false, false] false f_l_pair_right) :=
  fn_meanG T.F_l_pair_right sc_l_pair_right rfl (by decide) (fun cdv A1 outer s H E hgd hr => (imB_cons (imS_par2 2 3 rfl sc_l_pair_right.nd (imM_dat (imE_if (imT_cmp (od_eq rfl (Room.u100 hr)) (imX (imE_bin od_mod (imX (imE_blt (cd_len rfl) (by rfl) T.z_len (by decide +kernel) (imXs_cons (imX_var 0) imXs_nil))) (imX imE_int))) (imX imE_int)) (imE_of (imO_make (cf_Text T) T.k_Text (G_Text_init T) (hr.mono (by decide)) (by rfl) T.g_Text T.b_Text_init (pass_at (takes_of rfl rfl rfl rfl)) (imXs_cons (imX (imE_bltT (cd_tuple rfl) (by rfl) T.z_tuple (by decide +kernel) (imXs_cons (imX_var 0) imXs_nil))) imXs_nil))) (imE_of (imO_make (cf_Text T) T.k_Text (G_Text_init T) (hr.mono (by decide)) (by rfl) T.g_Text T.b_Text_init (pass_at (takes_of rfl rfl rfl rfl)) (imXs_cons (imX (imE_var 0)) imXs_nil)))) (imM_dat (imE_of (imO_make (cf_Text T) T.k_Text (G_Text_init T) (hr.mono (by decide)) (by rfl) T.g_Text T.b_Text_init (pass_at (takes_of rfl rfl rfl rfl)) (imXs_cons (imX (imE_var 1)) imXs_nil))) imM_nil))) (imB_cons (imS_if (imT_cmp od_neS (imX (imE_blt (cd_reprE rfl hgd (Room.u100 hr) hS) (by rfl) T.z_repr (by decide +kernel) (imXs_cons (imX (imE_of (imO_lst (imA_cons (imE_cmpO (cf_Text T) (op_ltO T.o_Text_lt (G_Text_lt T) (hr.mono (by decide)) T.b_Text_lt (fun _ => passLS)) (nf_Text T) (imX (imE_var 2)) (imX (imE_var 3))) (imA_cons (imE_cmpO (cf_Text T) (op_gtO T.o_Text_gt (G_Text_gt T) (hr.mono (by decide)) T.b_Text_gt (fun _ => passLS)) (nf_Text T) (imX (imE_var 2)) (imX (imE_var 3))) imA_nil))))) imXs_nil))) (imX (imE_blt (cd_reprE rfl hgd (Room.u100 hr) hS) (by rfl) T.z_repr (by decide +kernel) (imXs_cons (imX (imE_of (imO_lst (imA_cons (imE_cmp (od_ltD rfl (Room.u100 hr)) (imX_var 0) (imX_var 1)) (imA_cons (imE_cmp (od_gtD rfl (Room.u100 hr)) (imX_var 0) (imX_var 1)) imA_nil))))) imXs_nil)))) (imB_one (imS_ret imE_bl)) imB_nil) (imB_cons (imS_for (passes_of rfl) rfl (imI_seq rfl (imE_of (imO_lst (imA_cons imE_str (imA_cons imE_str (imA_cons imE_str imA_nil)))))) (imG_name 4 sc_l_pair_right.nd) (imB_cons (imS_set 5 sc_l_pair_right.nd (imE_call (G_l_sign T) (hr.mono (by decide)) (by rfl) T.g_l_sign T.F_l_sign.kp T.b_l_sign (pass_at (takes_of rfl rfl rfl rfl)) (imXs_cons (imX (imE_call (G_l_all T) (hr.mono (by decide)) (by rfl) T.g_l_all T.F_l_all.kp T.b_l_all (pass_at (takes_of rfl rfl rfl rfl)) (imXs_cons (imX (imE_var 0)) (imXs_cons (imX (imE_var 4)) imXs_nil)))) (imXs_cons (imX (imE_call (G_l_all T) (hr.mono (by decide)) (by rfl) T.g_l_all T.F_l_all.kp T.b_l_all (pass_at (takes_of rfl rfl rfl rfl)) (imXs_cons (imX (imE_var 1)) (imXs_cons (imX (imE_var 4)) imXs_nil)))) imXs_nil)))) (imB_cons (imS_if (imT_cmp od_neS (imX (imE_blt (cd_reprE rfl hgd (Room.u100 hr) hS) (by rfl) T.z_repr (by decide +kernel) (imXs_cons (imX (imE_call (G_l_caught T) (hr.mono (by decide)) (by rfl) T.g_l_caught T.F_l_caught.kp T.b_l_caught (pass_at (takes_of rfl rfl rfl rfl)) (imXs_cons (imX (imE_var 2)) (imXs_cons (imX (imE_var 3)) (imXs_cons (imX (imE_var 4)) imXs_nil))))) imXs_nil))) (imX (imE_blt (cd_reprE rfl hgd (Room.u100 hr) hS) (by rfl) T.z_repr (by decide +kernel) (imXs_cons (imX (imE_of (imO_lst (imA_cons imE_str (imA_cons (imE_var 5) imA_nil))))) imXs_nil)))) (imB_one (imS_ret imE_bl)) imB_nil) (imB_one (imS_if (ImW.t (imW_and (imT_cmp (od_ne rfl (Room.u100 hr)) (imX_var 4) (imX imE_str)) (imW_and1 (imT_cmp (od_ne rfl (Room.u100 hr)) (imX_var 5) (imX (imE_call (G_l_sign T) (hr.mono (by decide)) (by rfl) T.g_l_sign T.F_l_sign.kp T.b_l_sign (pass_at (takes_of rfl rfl rfl rfl)) (imXs_cons (imX (imE_var 0)) (imXs_cons (imX (imE_var 1)) imXs_nil)))))))) (imB_one (imS_ret imE_bl)) imB_nil))))) (imB_one (imS_ret imE_bl)))))) (fun h => Bool.noConfusion h)
end
/-- what is asked of the law's def -/
def LawOk (P : Program) : Prop := ∀ (w : World) (K : PySem.W.Frag) (mg : Str → Option Value) (A : Ads) (base : Heap) (H : Hp) (s : Shared) (a : Addr) (ns : List Int),
  Txt K mg A → (∀ (s : Shared) (v : Value), BindsTo s A.d_law ⟨[v], []⟩ [("_law_script", v)]) → ns.length ≤ 63 → SqL K H a (ns.map V.int) → Only H → Env0 P w K mg base callerA [] s H → SysD base →
  codeAny (model P w) callerA (.call (.ref A.a_law) ⟨[.ref a], []⟩) (CR CX0 [] P w H s (fun v _ => v = .bl true) fun _ _ _ => False) s
theorem law_by (hp : ∀ ns : List Int, ns.length ≤ 63 → f_law [.scr ns] = .ok (.bl true) []) (P : Program) : LawOk P := by
  intro w K mg A base H s a0 ns T hb hn hS hO e0 sysb
  exact law_mean (L := lay K A) (k := 9) T.F_law sc_law (by decide) rfl ⟨rfl, by decide, by decide⟩ e0 (hb s (.ref a0)) hS (fun cdv hr => (imB_cons (imS_for PassesOwn.never rfl (imI_range1 (imE_blt (cd_max2 rfl) (by rfl) T.z_max (by decide +kernel) (imXs_cons (imX imE_int) (imXs_cons (imX (imE_blt (cd_min2 rfl) (by rfl) T.z_min (by decide +kernel) (imXs_cons (imX imE_int) (imXs_cons (imX (imE_blt (cd_len rfl) (by rfl) T.z_len (by decide +kernel) (imXs_cons (imX_var 0) imXs_nil))) imXs_nil)))) imXs_nil))) (by rfl) T.z_range) (imG_name 1 sc_law.nd) (imB_cons (imS_setO 2 sc_law.nd (imO_call (G_l_bag T) (hr.mono (by decide)) (by rfl) T.g_l_bag T.F_l_bag.kp T.b_l_bag pass_no (imXs_cons (imX (imE_call (G_l_cell T) (hr.mono (by decide)) (by rfl) T.g_l_cell T.F_l_cell.kp T.b_l_cell pass_no (imXs_cons (imX (imE_var 0)) (imXs_cons (imX (imE_var 1)) imXs_nil)))) imXs_nil))) (imB_one (imS_for PassesOwn.never rfl (imI_range1 imE_int (by rfl) T.z_range) (imG_name 3 sc_law.nd) (imB_cons (imS_set 4 sc_law.nd (imE_call (G_l_chars T) (hr.mono (by decide)) (by rfl) T.g_l_chars T.F_l_chars.kp T.b_l_chars pass_no (imXs_cons (imX_var 2) (imXs_cons (imX imE_int) imXs_nil)))) (imB_cons (imS_setO 5 sc_law.nd (imO_lst (imA_cons (imE_bin (od_add rfl) (imX_var 4) (imX (imE_call (G_l_chars T) (hr.mono (by decide)) (by rfl) T.g_l_chars T.F_l_chars.kp T.b_l_chars pass_no (imXs_cons (imX_var 2) (imXs_cons (imX imE_int) imXs_nil))))) (imA_cons (imE_bin (od_add rfl) (imX_var 4) (imX (imE_call (G_l_chars T) (hr.mono (by decide)) (by rfl) T.g_l_chars T.F_l_chars.kp T.b_l_chars pass_no (imXs_cons (imX_var 2) (imXs_cons (imX imE_int) imXs_nil))))) (imA_cons (imE_var 4) (imA_cons (imE_call (G_l_chars T) (hr.mono (by decide)) (by rfl) T.g_l_chars T.F_l_chars.kp T.b_l_chars pass_no (imXs_cons (imX_var 2) (imXs_cons (imX imE_int) imXs_nil))) imA_nil)))))) (imB_cons (imS_append 5 (imE_bin (od_add rfl) (imX (imE_bin (od_add rfl) (imX_var 4) (imX (imE_of (imO_lst (imA_cons (imE_bin od_sub (imX imE_int) (imX (imE_call (G_l_take T) (hr.mono (by decide)) (by rfl) T.g_l_take T.F_l_take.kp T.b_l_take pass_no (imXs_cons (imX_var 2) (imXs_cons (imX imE_int) imXs_nil))))) imA_nil)))))) (imX (imE_call (G_l_chars T) (hr.mono (by decide)) (by rfl) T.g_l_chars T.F_l_chars.kp T.b_l_chars pass_no (imXs_cons (imX_var 2) (imXs_cons (imX imE_int) imXs_nil)))))) (imB_cons (imS_append 5 (imE_bin (od_add rfl) (imX_var 4) (imX (imE_of (imO_lst (imA_cons (imE_bin (od_add rfl) (imX imE_int) (imX (imE_call (G_l_take T) (hr.mono (by decide)) (by rfl) T.g_l_take T.F_l_take.kp T.b_l_take pass_no (imXs_cons (imX_var 2) (imXs_cons (imX imE_int) imXs_nil))))) imA_nil)))))) (imB_cons (imS_for PassesOwn.never rfl (imI_seq rfl (imE_frz 5)) (imG_name 6 sc_law.nd) (imB_one (imS_if (imT_cmp (od_ne rfl (Room.u100 hr)) (imX (imE_of (imO_lc rfl sc_law.nd (imI_seq rfl (imE_frz 5)) (blkOk_by (own := [("_law_right", 7)]) (N := ["_law_script", "_law_index", "_law_bag_here", "_law_turn", "_law_begin", "_law_lists", "_law_left", "_law_right", "_law_text", "_law_odd"]) (sc := defScope s_law) (by decide +kernel)) (fun _ _ _ _ _ => (imG_name 7 sc_law.nd)) (fun _ _ _ _ _ => (imTs_one (imT_not (imT_val (imE_callG (G_l_pair_right T sysb) (by rfl) (hr.mono (by decide)) (by rfl) T.g_l_pair_right T.F_l_pair_right.kp T.b_l_pair_right pass_no (imXs_cons (imX (imE_var 6)) (imXs_cons (imX (imE_var 7)) imXs_nil))))))) (fun _ _ _ _ _ => (imE_var 7))))) (imX (imE_of (imO_lst imA_nil)))) (imB_one (imS_ret imE_bl)) imB_nil))) (imB_cons (imS_set 8 sc_law.nd (imE_of (imO_make (cf_Text T) T.k_Text (G_Text_init T) (hr.mono (by decide)) (by rfl) T.g_Text T.b_Text_init pass_no (imXs_cons (imX (imE_ix (xd_ix rfl) (imX_var 5) (imX imE_int))) imXs_nil)))) (imB_one (imS_for PassesOwn.never rfl (imI_seq rfl (imE_of (imO_lst (imA_cons imE_non (imA_cons imE_bl (imA_cons imE_int (imA_cons imE_str (imA_cons (imE_ix (xd_ix rfl) (imX_var 5) (imX imE_int)) (imA_cons (imE_of imO_dct0) (imA_cons (imE_tup imA_nil) imA_nil)))))))))) (imG_name 9 sc_law.nd) (imB_cons (imS_if (ImW.t (imW_or (imT_neE (n := 0) .nil (hr.mono (by decide)) (imX (imE_call (G_l_caught T) (hr.mono (by decide)) (by rfl) T.g_l_caught T.F_l_caught.kp T.b_l_caught pass_no (imXs_cons (imX (imE_var 9)) (imXs_cons (imX imE_non) (imXs_cons (imX imE_non) imXs_nil))))) (imX (imE_of (imO_lst (imA_cons imE_str (imA_cons (imE_var 9) imA_nil)))))) (imW_or1 (imT_neE (n := 0) .nil (hr.mono (by decide)) (imX (imE_call (G_l_caught T) (hr.mono (by decide)) (by rfl) T.g_l_caught T.F_l_caught.kp T.b_l_caught pass_no (imXs_cons (imX (imE_var 8)) (imXs_cons (imX (imE_var 9)) (imXs_cons (imX imE_str) imXs_nil))))) (imX (imE_of (imO_lst (imA_cons imE_str (imA_cons (imE_var 9) imA_nil))))))))) (imB_one (imS_ret imE_bl)) imB_nil) (imB_one (imS_if (imT_neE (n := 0) .nil (hr.mono (by decide)) (imX (imE_call (G_l_caught T) (hr.mono (by decide)) (by rfl) T.g_l_caught T.F_l_caught.kp T.b_l_caught pass_no (imXs_cons (imX (imE_var 8)) (imXs_cons (imX (imE_var 8)) (imXs_cons (imX (imE_var 9)) imXs_nil))))) (imX (imE_of (imO_lst (imA_cons imE_str (imA_cons (imE_var 9) imA_nil)))))) (imB_one (imS_ret imE_bl)) imB_nil))))))))))))))) (imB_one (imS_ret imE_bl)))) (hp ns hn)
end Tc

/-! # K1 -/
namespace Tc
open PySem Pu
theorem szl : sizeLine = 16777216 := PySem.sizeLine_eq
theorem gNe_int (a b : Int) : gNe (.int a) (.int b) = some (.bl (!(a == b))) := by
  unfold gNe
  simp [toPy, SeqAt.shaped, PyData.eqv, PyData.canLay0, PyData.depth]
theorem gEq_int (a b : Int) : gEq (.int a) (.int b) = some (.bl (a == b)) := by
  unfold gEq
  simp [toPy, SeqAt.shaped, PyData.eqv, PyData.canLay0, PyData.depth]
theorem ix_nat {ds : List D} {n : Nat} {d : D} (h : ds[n]? = some d) : gIx (.lst ds) (.int (n : Int)) = some d := L2.atI_nat h
theorem ixt_nat {ds : List D} {n : Nat} {d : D} (h : ds[n]? = some d) : gIx (.tup ds) (.int (n : Int)) = some d := L2.atI_nat h
theorem ixs_nat {l : List Int} {n : Nat} {d : Int} (h : l[n]? = some d) : gIx (.scr l) (.int (n : Int)) = some (.int d) := by
  show (L2.atI l (n : Int)).map D.int = _
  rw [L2.atI_nat h]
  rfl
theorem ix_last (l : List D) (d : D) : gIx (.lst (l ++ [d])) (.int (-1)) = some d := by
  show L2.atI (l ++ [d]) (-1) = some d
  unfold L2.atI L2.ixN
  simp only [List.length_append, List.length_cons, List.length_nil]
  rw [if_neg (by decide), if_pos (by omega)]
  simp only [Option.bind_some]
  have : ((-1 : Int) + ((l.length + (0 + 1) : Nat) : Int)).toNat = l.length := by omega
  rw [this]
  simp
theorem gEq_str {a b : Str} (ha : PyData.strOk a = true) (hb : PyData.strOk b = true) : gEq (.str a) (.str b) = some (.bl (a == b)) := by
  unfold gEq
  simp [toPy, SeqAt.shaped, PyData.eqv, PyData.canLay0, PyData.depth, ha, hb]
theorem v_is_whole (i : Int) : f_is_whole [.int i] = .ok (.bl true) [] := by
  unfold f_is_whole m_is_whole
  rfl
theorem v_is_integer (i lo hi : Int) : f_is_integer [.int i, .int lo, .int hi] = .ok (.bl (decide (lo ≤ i ∧ i ≤ hi))) [] := by
  unfold f_is_integer m_is_integer
  by_cases h1 : lo ≤ i
  · simp only [runF, startE, iosE, sSeq, sRet, sIf, sExp, sNil, sSet, sSetO, thenS, sPut, sApp, sAsg, sFor, sBrk, gNm, gTp, gCn, gNl, Rx.bind, liftO, mC, mVar, mFrz, xVar, xE, aNil, aCons, xsNil, xsCons, mLst, mTup, mBin, mUn, mTst, tNt, tAn, tOrr, vAn, vOr, vNt, asB, mIf, mBlt, mChn, mSl, oNo, oSo, asI, deref, derefs, slotV, putSl, mCall, callZ, argsOf, ioS, backIo, mMeth, mMeth0, mFld, mProp, Rx.nox, mIxO, allD, mMake, madeZ, sFldP, putN, mIsi, gIsi, tyS, isObj', iSeq, iEnm, iObj, mAddO, tyMo, tyM, tysS, mCmpO, gAdd, Pu.gSub, gDiv, gMod, gInt, gLt, gLen, gSum, gMax2, gMin2, gLstOf, gTupOf, gSl, gNeg, gAll, itemsOf, List.getElem?_cons_zero, List.getElem?_cons_succ, List.getElem?_nil, List.set_cons_zero, List.set_cons_succ, List.length_cons, List.length_nil, Option.map_some, Option.map_none, Option.bind_some, List.replicate, List.lookup, List.nodup_nil, List.nodup_cons, List.not_mem_nil, List.mem_cons, if_true, if_false, Bool.not_true, Bool.not_false, Bool.false_eq_true, not_true, not_false_iff, and_true, true_and, reduceIte, Nat.reduceLT, Nat.reduceLeDiff, Nat.reduceAdd, beq_self_eq_true, Nat.reduceBEq, Nat.reduceEqDiff, reduceCtorEq, v_is_whole, h1, decide_true]
  · simp only [runF, startE, iosE, sSeq, sRet, sIf, sExp, sNil, sSet, sSetO, thenS, sPut, sApp, sAsg, sFor, sBrk, gNm, gTp, gCn, gNl, Rx.bind, liftO, mC, mVar, mFrz, xVar, xE, aNil, aCons, xsNil, xsCons, mLst, mTup, mBin, mUn, mTst, tNt, tAn, tOrr, vAn, vOr, vNt, asB, mIf, mBlt, mChn, mSl, oNo, oSo, asI, deref, derefs, slotV, putSl, mCall, callZ, argsOf, ioS, backIo, mMeth, mMeth0, mFld, mProp, Rx.nox, mIxO, allD, mMake, madeZ, sFldP, putN, mIsi, gIsi, tyS, isObj', iSeq, iEnm, iObj, mAddO, tyMo, tyM, tysS, mCmpO, gAdd, Pu.gSub, gDiv, gMod, gInt, gLt, gLen, gSum, gMax2, gMin2, gLstOf, gTupOf, gSl, gNeg, gAll, itemsOf, List.getElem?_cons_zero, List.getElem?_cons_succ, List.getElem?_nil, List.set_cons_zero, List.set_cons_succ, List.length_cons, List.length_nil, Option.map_some, Option.map_none, Option.bind_some, List.replicate, List.lookup, List.nodup_nil, List.nodup_cons, List.not_mem_nil, List.mem_cons, if_true, if_false, Bool.not_true, Bool.not_false, Bool.false_eq_true, not_true, not_false_iff, and_true, true_and, reduceIte, Nat.reduceLT, Nat.reduceLeDiff, Nat.reduceAdd, beq_self_eq_true, Nat.reduceBEq, Nat.reduceEqDiff, reduceCtorEq, v_is_whole, h1, decide_false, false_and]
def Gc (c : Int) : Prop := 0 ≤ c ∧ c ≤ 1114111 ∧ ¬ (55296 ≤ c ∧ c ≤ 57343)
theorem v_is_char {c : Int} (h : Gc c) : f_is_char [.int c] = .ok (.bl true) [] := by
  obtain ⟨h1, h2, h3⟩ := h
  unfold f_is_char m_is_char
  have e1 : decide (0 ≤ c ∧ c ≤ 1114111) = true := by simp [h1, h2]
  by_cases h4 : 55296 ≤ c
  · have h5 : ¬ c ≤ 57343 := fun z => h3 ⟨h4, z⟩
    simp only [runF, startE, iosE, sSeq, sRet, sIf, sExp, sNil, sSet, sSetO, thenS, sPut, sApp, sAsg, sFor, sBrk, gNm, gTp, gCn, gNl, Rx.bind, liftO, mC, mVar, mFrz, xVar, xE, aNil, aCons, xsNil, xsCons, mLst, mTup, mBin, mUn, mTst, tNt, tAn, tOrr, vAn, vOr, vNt, asB, mIf, mBlt, mChn, mSl, oNo, oSo, asI, deref, derefs, slotV, putSl, mCall, callZ, argsOf, ioS, backIo, mMeth, mMeth0, mFld, mProp, Rx.nox, mIxO, allD, mMake, madeZ, sFldP, putN, mIsi, gIsi, tyS, isObj', iSeq, iEnm, iObj, mAddO, tyMo, tyM, tysS, mCmpO, gAdd, Pu.gSub, gDiv, gMod, gInt, gLt, gLen, gSum, gMax2, gMin2, gLstOf, gTupOf, gSl, gNeg, gAll, itemsOf, List.getElem?_cons_zero, List.getElem?_cons_succ, List.getElem?_nil, List.set_cons_zero, List.set_cons_succ, List.length_cons, List.length_nil, Option.map_some, Option.map_none, Option.bind_some, List.replicate, List.lookup, List.nodup_nil, List.nodup_cons, List.not_mem_nil, List.mem_cons, if_true, if_false, Bool.not_true, Bool.not_false, Bool.false_eq_true, not_true, not_false_iff, and_true, true_and, reduceIte, Nat.reduceLT, Nat.reduceLeDiff, Nat.reduceAdd, beq_self_eq_true, Nat.reduceBEq, Nat.reduceEqDiff, reduceCtorEq, v_is_integer, e1, h4, h5, decide_true, decide_false]
  · simp only [runF, startE, iosE, sSeq, sRet, sIf, sExp, sNil, sSet, sSetO, thenS, sPut, sApp, sAsg, sFor, sBrk, gNm, gTp, gCn, gNl, Rx.bind, liftO, mC, mVar, mFrz, xVar, xE, aNil, aCons, xsNil, xsCons, mLst, mTup, mBin, mUn, mTst, tNt, tAn, tOrr, vAn, vOr, vNt, asB, mIf, mBlt, mChn, mSl, oNo, oSo, asI, deref, derefs, slotV, putSl, mCall, callZ, argsOf, ioS, backIo, mMeth, mMeth0, mFld, mProp, Rx.nox, mIxO, allD, mMake, madeZ, sFldP, putN, mIsi, gIsi, tyS, isObj', iSeq, iEnm, iObj, mAddO, tyMo, tyM, tysS, mCmpO, gAdd, Pu.gSub, gDiv, gMod, gInt, gLt, gLen, gSum, gMax2, gMin2, gLstOf, gTupOf, gSl, gNeg, gAll, itemsOf, List.getElem?_cons_zero, List.getElem?_cons_succ, List.getElem?_nil, List.set_cons_zero, List.set_cons_succ, List.length_cons, List.length_nil, Option.map_some, Option.map_none, Option.bind_some, List.replicate, List.lookup, List.nodup_nil, List.nodup_cons, List.not_mem_nil, List.mem_cons, if_true, if_false, Bool.not_true, Bool.not_false, Bool.false_eq_true, not_true, not_false_iff, and_true, true_and, reduceIte, Nat.reduceLT, Nat.reduceLeDiff, Nat.reduceAdd, beq_self_eq_true, Nat.reduceBEq, Nat.reduceEqDiff, reduceCtorEq, v_is_integer, e1, h4, decide_true, decide_false]
theorem v_check_char {c : Int} (h : Gc c) : f_check_char [.int c] = .ok .non [] := by
  unfold f_check_char m_check_char
  simp only [runF, startE, iosE, sSeq, sRet, sIf, sExp, sNil, sSet, sSetO, thenS, sPut, sApp, sAsg, sFor, sBrk, gNm, gTp, gCn, gNl, Rx.bind, liftO, mC, mVar, mFrz, xVar, xE, aNil, aCons, xsNil, xsCons, mLst, mTup, mBin, mUn, mTst, tNt, tAn, tOrr, vAn, vOr, vNt, asB, mIf, mBlt, mChn, mSl, oNo, oSo, asI, deref, derefs, slotV, putSl, mCall, callZ, argsOf, ioS, backIo, mMeth, mMeth0, mFld, mProp, Rx.nox, mIxO, allD, mMake, madeZ, sFldP, putN, mIsi, gIsi, tyS, isObj', iSeq, iEnm, iObj, mAddO, tyMo, tyM, tysS, mCmpO, gAdd, Pu.gSub, gDiv, gMod, gInt, gLt, gLen, gSum, gMax2, gMin2, gLstOf, gTupOf, gSl, gNeg, gAll, itemsOf, List.getElem?_cons_zero, List.getElem?_cons_succ, List.getElem?_nil, List.set_cons_zero, List.set_cons_succ, List.length_cons, List.length_nil, Option.map_some, Option.map_none, Option.bind_some, List.replicate, List.lookup, List.nodup_nil, List.nodup_cons, List.not_mem_nil, List.mem_cons, if_true, if_false, Bool.not_true, Bool.not_false, Bool.false_eq_true, not_true, not_false_iff, and_true, true_and, reduceIte, Nat.reduceLT, Nat.reduceLeDiff, Nat.reduceAdd, beq_self_eq_true, Nat.reduceBEq, Nat.reduceEqDiff, reduceCtorEq, v_is_char h]
def Good (cs : List Int) : Prop := ∀ c ∈ cs, Gc c
theorem lp_check {cs : List Int} (h : Good cs) (x y : Sl) : ∃ z, forL (gNm 1) (sExp (mCall f_check_char [false] (xsCons (xE (mVar 1)) xsNil))) (cs.map D.int) [x, y] = .nx [x, z] := by
  induction cs generalizing y with
  | nil => exact ⟨y, rfl⟩
  | cons c cs ih =>
    obtain ⟨z, e⟩ := ih (fun d m => h d (List.mem_cons_of_mem _ m)) (.dat (.int c))
    refine ⟨z, ?_⟩
    rw [List.map_cons, forL]
    simp only [runF, startE, iosE, sSeq, sRet, sIf, sExp, sNil, sSet, sSetO, thenS, sPut, sApp, sAsg, sFor, sBrk, gNm, gTp, gCn, gNl, Rx.bind, liftO, mC, mVar, mFrz, xVar, xE, aNil, aCons, xsNil, xsCons, mLst, mTup, mBin, mUn, mTst, tNt, tAn, tOrr, vAn, vOr, vNt, asB, mIf, mBlt, mChn, mSl, oNo, oSo, asI, deref, derefs, slotV, putSl, mCall, callZ, argsOf, ioS, backIo, mMeth, mMeth0, mFld, mProp, Rx.nox, mIxO, allD, mMake, madeZ, sFldP, putN, mIsi, gIsi, tyS, isObj', iSeq, iEnm, iObj, mAddO, tyMo, tyM, tysS, mCmpO, gAdd, Pu.gSub, gDiv, gMod, gInt, gLt, gLen, gSum, gMax2, gMin2, gLstOf, gTupOf, gSl, gNeg, gAll, itemsOf, List.getElem?_cons_zero, List.getElem?_cons_succ, List.getElem?_nil, List.set_cons_zero, List.set_cons_succ, List.length_cons, List.length_nil, Option.map_some, Option.map_none, Option.bind_some, List.replicate, List.lookup, List.nodup_nil, List.nodup_cons, List.not_mem_nil, List.mem_cons, if_true, if_false, Bool.not_true, Bool.not_false, Bool.false_eq_true, not_true, not_false_iff, and_true, true_and, reduceIte, Nat.reduceLT, Nat.reduceLeDiff, Nat.reduceAdd, beq_self_eq_true, Nat.reduceBEq, Nat.reduceEqDiff, reduceCtorEq, v_check_char (h c List.mem_cons_self)]
    exact e
/-- a list or a tuple of characters -/
inductive Row : D → List Int → Prop
  | lst (cs : List Int) : Row (.lst (cs.map D.int)) cs
  | tup (cs : List Int) : Row (.tup (cs.map D.int)) cs
theorem v_check_chars {d : D} {cs : List Int} (r : Row d cs) (h : Good cs) : f_check_chars [d] = .ok .non [] := by
  obtain ⟨z, e⟩ := lp_check h (.dat d) .no
  cases r with
  | lst =>
    have e0 : f_is_list [.lst (cs.map D.int)] = .ok (.bl true) [] := rfl
    unfold f_check_chars m_check_chars
    simp only [runF, startE, iosE, sSeq, sRet, sIf, sExp, sNil, sSet, sSetO, thenS, sPut, sApp, sAsg, sFor, sBrk, gNm, gTp, gCn, gNl, Rx.bind, liftO, mC, mVar, mFrz, xVar, xE, aNil, aCons, xsNil, xsCons, mLst, mTup, mBin, mUn, mTst, tNt, tAn, tOrr, vAn, vOr, vNt, asB, mIf, mBlt, mChn, mSl, oNo, oSo, asI, deref, derefs, slotV, putSl, mCall, callZ, argsOf, ioS, backIo, mMeth, mMeth0, mFld, mProp, Rx.nox, mIxO, allD, mMake, madeZ, sFldP, putN, mIsi, gIsi, tyS, isObj', iSeq, iEnm, iObj, mAddO, tyMo, tyM, tysS, mCmpO, gAdd, Pu.gSub, gDiv, gMod, gInt, gLt, gLen, gSum, gMax2, gMin2, gLstOf, gTupOf, gSl, gNeg, gAll, itemsOf, List.getElem?_cons_zero, List.getElem?_cons_succ, List.getElem?_nil, List.set_cons_zero, List.set_cons_succ, List.length_cons, List.length_nil, Option.map_some, Option.map_none, Option.bind_some, List.replicate, List.lookup, List.nodup_nil, List.nodup_cons, List.not_mem_nil, List.mem_cons, if_true, if_false, Bool.not_true, Bool.not_false, Bool.false_eq_true, not_true, not_false_iff, and_true, true_and, reduceIte, Nat.reduceLT, Nat.reduceLeDiff, Nat.reduceAdd, beq_self_eq_true, Nat.reduceBEq, Nat.reduceEqDiff, reduceCtorEq, e0]
    rw [e]
    rfl
  | tup =>
    have e0 : f_is_list [.tup (cs.map D.int)] = .ok (.bl true) [] := rfl
    unfold f_check_chars m_check_chars
    simp only [runF, startE, iosE, sSeq, sRet, sIf, sExp, sNil, sSet, sSetO, thenS, sPut, sApp, sAsg, sFor, sBrk, gNm, gTp, gCn, gNl, Rx.bind, liftO, mC, mVar, mFrz, xVar, xE, aNil, aCons, xsNil, xsCons, mLst, mTup, mBin, mUn, mTst, tNt, tAn, tOrr, vAn, vOr, vNt, asB, mIf, mBlt, mChn, mSl, oNo, oSo, asI, deref, derefs, slotV, putSl, mCall, callZ, argsOf, ioS, backIo, mMeth, mMeth0, mFld, mProp, Rx.nox, mIxO, allD, mMake, madeZ, sFldP, putN, mIsi, gIsi, tyS, isObj', iSeq, iEnm, iObj, mAddO, tyMo, tyM, tysS, mCmpO, gAdd, Pu.gSub, gDiv, gMod, gInt, gLt, gLen, gSum, gMax2, gMin2, gLstOf, gTupOf, gSl, gNeg, gAll, itemsOf, List.getElem?_cons_zero, List.getElem?_cons_succ, List.getElem?_nil, List.set_cons_zero, List.set_cons_succ, List.length_cons, List.length_nil, Option.map_some, Option.map_none, Option.bind_some, List.replicate, List.lookup, List.nodup_nil, List.nodup_cons, List.not_mem_nil, List.mem_cons, if_true, if_false, Bool.not_true, Bool.not_false, Bool.false_eq_true, not_true, not_false_iff, and_true, true_and, reduceIte, Nat.reduceLT, Nat.reduceLeDiff, Nat.reduceAdd, beq_self_eq_true, Nat.reduceBEq, Nat.reduceEqDiff, reduceCtorEq, e0]
    rw [e]
    rfl
def txt (cs : List Int) : D := .obj 0 [(0, .tup (cs.map D.int))]
theorem v_Text_init {d : D} {cs : List Int} (r : Row d cs) (h : Good cs) : f_Text_init [.obj 0 [], d] = .ok .non [txt cs] := by
  have e := v_check_chars r h
  unfold f_Text_init m_Text_init
  cases r with
  | lst => simp only [runF, startE, iosE, sSeq, sRet, sIf, sExp, sNil, sSet, sSetO, thenS, sPut, sApp, sAsg, sFor, sBrk, gNm, gTp, gCn, gNl, Rx.bind, liftO, mC, mVar, mFrz, xVar, xE, aNil, aCons, xsNil, xsCons, mLst, mTup, mBin, mUn, mTst, tNt, tAn, tOrr, vAn, vOr, vNt, asB, mIf, mBlt, mChn, mSl, oNo, oSo, asI, deref, derefs, slotV, putSl, mCall, callZ, argsOf, ioS, backIo, mMeth, mMeth0, mFld, mProp, Rx.nox, mIxO, allD, mMake, madeZ, sFldP, putN, mIsi, gIsi, tyS, isObj', iSeq, iEnm, iObj, mAddO, tyMo, tyM, tysS, mCmpO, gAdd, Pu.gSub, gDiv, gMod, gInt, gLt, gLen, gSum, gMax2, gMin2, gLstOf, gTupOf, gSl, gNeg, gAll, itemsOf, List.getElem?_cons_zero, List.getElem?_cons_succ, List.getElem?_nil, List.set_cons_zero, List.set_cons_succ, List.length_cons, List.length_nil, Option.map_some, Option.map_none, Option.bind_some, List.replicate, List.lookup, List.nodup_nil, List.nodup_cons, List.not_mem_nil, List.mem_cons, if_true, if_false, Bool.not_true, Bool.not_false, Bool.false_eq_true, not_true, not_false_iff, and_true, true_and, reduceIte, Nat.reduceLT, Nat.reduceLeDiff, Nat.reduceAdd, beq_self_eq_true, Nat.reduceBEq, Nat.reduceEqDiff, reduceCtorEq, e, txt]
  | tup => simp only [runF, startE, iosE, sSeq, sRet, sIf, sExp, sNil, sSet, sSetO, thenS, sPut, sApp, sAsg, sFor, sBrk, gNm, gTp, gCn, gNl, Rx.bind, liftO, mC, mVar, mFrz, xVar, xE, aNil, aCons, xsNil, xsCons, mLst, mTup, mBin, mUn, mTst, tNt, tAn, tOrr, vAn, vOr, vNt, asB, mIf, mBlt, mChn, mSl, oNo, oSo, asI, deref, derefs, slotV, putSl, mCall, callZ, argsOf, ioS, backIo, mMeth, mMeth0, mFld, mProp, Rx.nox, mIxO, allD, mMake, madeZ, sFldP, putN, mIsi, gIsi, tyS, isObj', iSeq, iEnm, iObj, mAddO, tyMo, tyM, tysS, mCmpO, gAdd, Pu.gSub, gDiv, gMod, gInt, gLt, gLen, gSum, gMax2, gMin2, gLstOf, gTupOf, gSl, gNeg, gAll, itemsOf, List.getElem?_cons_zero, List.getElem?_cons_succ, List.getElem?_nil, List.set_cons_zero, List.set_cons_succ, List.length_cons, List.length_nil, Option.map_some, Option.map_none, Option.bind_some, List.replicate, List.lookup, List.nodup_nil, List.nodup_cons, List.not_mem_nil, List.mem_cons, if_true, if_false, Bool.not_true, Bool.not_false, Bool.false_eq_true, not_true, not_false_iff, and_true, true_and, reduceIte, Nat.reduceLT, Nat.reduceLeDiff, Nat.reduceAdd, beq_self_eq_true, Nat.reduceBEq, Nat.reduceEqDiff, reduceCtorEq, e, txt]
theorem v_check_text (cs : List Int) : f_check_text [txt cs] = .ok .non [] := rfl
theorem s1 : 1 ≤ sizeLine := by rw [szl]; decide
theorem s2 : 2 ≤ sizeLine := by rw [szl]; decide
theorem s3 : 3 ≤ sizeLine := by rw [szl]; decide
theorem s5 : 5 ≤ sizeLine := by rw [szl]; decide
theorem s6 : 6 ≤ sizeLine := by rw [szl]; decide
theorem s14 : 14 ≤ sizeLine := by rw [szl]; decide
theorem s4 : 4 ≤ sizeLine := by rw [szl]; decide
theorem s13 : 13 ≤ sizeLine := by rw [szl]; decide
theorem v_Text_chars (cs : List Int) : f_Text_chars [txt cs] = .ok (.lst (cs.map D.int)) [] := by
  unfold f_Text_chars m_Text_chars
  simp only [runF, startE, iosE, sSeq, sRet, sIf, sExp, sNil, sSet, sSetO, thenS, sPut, sApp, sAsg, sFor, sBrk, gNm, gTp, gCn, gNl, Rx.bind, liftO, mC, mVar, mFrz, xVar, xE, aNil, aCons, xsNil, xsCons, mLst, mTup, mBin, mUn, mTst, tNt, tAn, tOrr, vAn, vOr, vNt, asB, mIf, mBlt, mChn, mSl, oNo, oSo, asI, deref, derefs, slotV, putSl, mCall, callZ, argsOf, ioS, backIo, mMeth, mMeth0, mFld, mProp, Rx.nox, mIxO, allD, mMake, madeZ, sFldP, putN, mIsi, gIsi, tyS, isObj', iSeq, iEnm, iObj, mAddO, tyMo, tyM, tysS, mCmpO, gAdd, Pu.gSub, gDiv, gMod, gInt, gLt, gLen, gSum, gMax2, gMin2, gLstOf, gTupOf, gSl, gNeg, gAll, itemsOf, List.getElem?_cons_zero, List.getElem?_cons_succ, List.getElem?_nil, List.set_cons_zero, List.set_cons_succ, List.length_cons, List.length_nil, Option.map_some, Option.map_none, Option.bind_some, List.replicate, List.lookup, List.nodup_nil, List.nodup_cons, List.not_mem_nil, List.mem_cons, if_true, if_false, Bool.not_true, Bool.not_false, Bool.false_eq_true, not_true, not_false_iff, and_true, true_and, reduceIte, Nat.reduceLT, Nat.reduceLeDiff, Nat.reduceAdd, beq_self_eq_true, Nat.reduceBEq, Nat.reduceEqDiff, reduceCtorEq, txt]
theorem cut_to (cs : List Int) (i : Nat) : cutG (cs.map D.int) none (some (i : Int)) = (cs.take i).map D.int := by
  unfold cutG
  rw [HT.sIx_none, HT.sIx_nat]
  simp only [List.drop_zero, Nat.sub_zero, List.length_map, ← List.map_take]
  congr 1
  rcases Nat.le_total i cs.length with h | h
  · rw [Nat.min_eq_left h]
  · rw [Nat.min_eq_right h, List.take_of_length_le (Nat.le_refl _), List.take_of_length_le h]
theorem cut_at (cs : List Int) (i e : Nat) : cutG (cs.map D.int) (some (i : Int)) (some (e : Int)) = ((cs.drop i).take (e - i)).map D.int := by
  unfold cutG
  rw [HT.sIx_nat, HT.sIx_nat]
  simp only [List.length_map, ← List.map_take, ← List.map_drop]
  congr 1
  rcases Nat.le_total i cs.length with h | h
  · rw [Nat.min_eq_left h]
    rcases Nat.le_total e cs.length with h2 | h2
    · rw [Nat.min_eq_left h2]
    · rw [Nat.min_eq_right h2, List.take_of_length_le (by rw [List.length_drop]; omega), List.take_of_length_le (by rw [List.length_drop]; omega)]
  · rw [Nat.min_eq_right h, List.drop_of_length_le (Nat.le_refl _), List.drop_of_length_le h]
    simp
theorem gmul {i : Int} (h : -(2 ^ 64) < i ∧ i < 2 ^ 64) (j : Int) : gMul (.int i) (.int j) = some (.int (i * j)) := by
  unfold gMul
  exact if_pos (.inl h)
theorem gpow {i : Int} {j : Int} (h0 : 0 ≤ j) (h1 : j ≤ 1000000) (h : i.natAbs < 2 ^ 64) : gPow (.int i) (.int j) = some (.int (i ^ j.toNat)) := by
  unfold gPow
  exact if_pos ⟨h0, h1, h⟩
theorem ix0 (x : D) (l : List D) : gIx (.lst (x :: l)) (.int 0) = some x := ix_nat (n := 0) rfl
theorem ix1 (x y : D) (l : List D) : gIx (.lst (x :: y :: l)) (.int 1) = some y := ix_nat (n := 1) rfl
theorem ix2 (x y z : D) (l : List D) : gIx (.lst (x :: y :: z :: l)) (.int 2) = some z := ix_nat (n := 2) rfl
theorem asIs_map (l : List Int) : asIs (l.map D.int) = some l := asIs_ints l
theorem pyA_ints (l : List Int) : toPyA (l.map D.int) = some (l.map PyData.int) := by
  induction l with
  | nil => simp [toPyA]
  | cons i l ih => simp [toPyA, toPy, ih]
theorem eqvA_ints : ∀ cs ds : List Int, PyData.eqvAll (cs.map PyData.int) (ds.map PyData.int) = decide (cs = ds)
  | [], [] => by simp [PyData.eqvAll]
  | [], _ :: _ => by simp [PyData.eqvAll]
  | _ :: _, [] => by simp [PyData.eqvAll]
  | c :: cs, d :: ds => by
    rw [List.map_cons, List.map_cons, PyData.eqvAll, eqvA_ints cs ds]
    by_cases e : c = d
    · subst e
      simp [PyData.eqv]
    · simp [PyData.eqv, e]
theorem layA_ints (l : List Int) : PyData.canLayAll0 (l.map PyData.int) = true := by
  induction l with
  | nil => simp [PyData.canLayAll0]
  | cons i l ih => simp [PyData.canLayAll0, PyData.canLay0, ih]
theorem depA_ints (l : List Int) : PyData.depthAll (l.map PyData.int) = 0 := by
  induction l with
  | nil => simp [PyData.depthAll]
  | cons i l ih => simp [PyData.depthAll, PyData.depth, ih]
theorem gNe_lst (l : List Int) : gNe (.lst (l.map D.int)) (.lst (l.map D.int)) = some (.bl false) := by
  have d := depA_ints l
  unfold gNe
  simp only [toPy, pyA_ints, Option.map_some]
  have sh : SeqAt.shaped (.list (l.map PyData.int)) = true := by simp [SeqAt.shaped, PyData.canLay0, PyData.depth, layA_ints, d]
  simp [sh, PyData.eqv, eqvA_ints]
theorem gNe_tup (l : List Int) : gNe (.tup (l.map D.int)) (.tup (l.map D.int)) = some (.bl false) := by
  have d := depA_ints l
  unfold gNe
  simp only [toPy, pyA_ints, Option.map_some]
  have sh : SeqAt.shaped (.tuple (l.map PyData.int)) = true := by simp [SeqAt.shaped, PyData.canLay0, PyData.depth, layA_ints, d]
  simp [sh, PyData.eqv, eqvA_ints]
theorem gEq_ints (a c : List Int) : gEq (.lst (a.map D.int)) (.lst (c.map D.int)) = some (.bl (decide (a = c))) := by
  have d1 := depA_ints a
  have d2 := depA_ints c
  unfold gEq
  simp only [toPy, pyA_ints, Option.map_some]
  have sh : SeqAt.shaped (.list (a.map PyData.int)) = true := by simp [SeqAt.shaped, PyData.canLay0, PyData.depth, layA_ints, d1]
  have sh2 : SeqAt.shaped (.list (c.map PyData.int)) = true := by simp [SeqAt.shaped, PyData.canLay0, PyData.depth, layA_ints, d2]
  simp [sh, sh2, PyData.eqv, eqvA_ints]
theorem irn1 {me : Me} {env env1 : Env'} {m : Int} (h : me env = .ok (.int m) env1) (h0 : 0 ≤ m) (h1 : m ≤ 1000) : iRn1 me env = .ok (rngD 0 m.toNat) env1 := by
  unfold iRn1
  rw [h]
  simp only [Rx.bind]
  exact if_pos ⟨by omega, by omega⟩
theorem rng_len (i : Int) (n : Nat) : (rngD i n).length = n := by
  unfold rngD
  rw [List.length_map, List.length_range]
theorem forL_ok {tg : Mg} {body : Ms} (I : Nat → Env' → Prop) : ∀ (ds : List D) (a : Nat) (env : Env'), I a env → (∀ (j : Nat) (d : D) (env : Env'), ds[j]? = some d → I (a + j) env → ∃ e1 e2, tg d env = some e1 ∧ body e1 = .nx e2 ∧ I (a + j + 1) e2) → ∃ e, forL tg body ds env = .nx e ∧ I (a + ds.length) e
  | [], a, env, h, _ => ⟨env, rfl, h⟩
  | d :: ds, a, env, h, st => by
    obtain ⟨e1, e2, h1, h2, h3⟩ := st 0 d env rfl h
    obtain ⟨e, h4, h5⟩ := forL_ok I ds (a + 1) e2 h3 fun j d' env' hd hi => by
      obtain ⟨e1, e2, g1, g2, g3⟩ := st (j + 1) d' env' (by simpa using hd) (by rw [show a + (j + 1) = a + 1 + j by omega]; exact hi)
      exact ⟨e1, e2, g1, g2, by rw [show a + 1 + j + 1 = a + (j + 1) + 1 by omega]; exact g3⟩
    refine ⟨e, ?_, by rw [List.length_cons, show a + (ds.length + 1) = a + 1 + ds.length by omega]; exact h5⟩
    rw [forL, h1]
    dsimp only
    rw [h2]
    exact h4
theorem rng_at {n j : Nat} {d : D} (h : (rngD 0 n)[j]? = some d) : d = .int (j : Nat) ∧ j < n := by
  have hl := (List.getElem?_eq_some_iff.mp h).1
  rw [rng_len] at hl
  unfold rngD at h
  rw [List.getElem?_map, List.getElem?_range hl] at h
  simp at h
  exact ⟨h.symm, hl⟩
end Tc

/-! # K2 -/
namespace Tc
open PySem Pu
theorem v_cell (ns : List Int) (k : Nat) : ∃ v, f_l_cell [.scr ns, .int k] = .ok (.int v) [] := by
  by_cases h : k < ns.length
  · have h1 : ((k : Int) < (ns.length : Int)) = True := by simp; omega
    have e : gIx (.scr ns) (.int (k : Int)) = some (.int ns[k]) := ixs_nat (List.getElem?_eq_getElem h)
    refine ⟨ns[k], ?_⟩
    unfold f_l_cell m_l_cell
    simp only [runF, startE, iosE, sSeq, sRet, sIf, sExp, sNil, sSet, sSetO, thenS, sPut, sApp, sAsg, sFor, sBrk, gNm, gTp, gCn, gNl, Rx.bind, liftO, mC, mVar, mFrz, xVar, xE, aNil, aCons, xsNil, xsCons, mLst, mTup, mBin, mUn, mTst, tNt, tAn, tOrr, vAn, vOr, vNt, asB, mIf, mBlt, mChn, mSl, oNo, oSo, asI, deref, derefs, slotV, putSl, mCall, callZ, argsOf, ioS, backIo, mMeth, mMeth0, mFld, mProp, Rx.nox, mIxO, allD, mMake, madeZ, sFldP, putN, mIsi, gIsi, tyS, isObj', iSeq, iEnm, iObj, mAddO, tyMo, tyM, tysS, mCmpO, gAdd, Pu.gSub, gDiv, gMod, gInt, gLt, gLen, gSum, gMax2, gMin2, gLstOf, gTupOf, gSl, gNeg, gAll, itemsOf, List.getElem?_cons_zero, List.getElem?_cons_succ, List.getElem?_nil, List.set_cons_zero, List.set_cons_succ, List.length_cons, List.length_nil, Option.map_some, Option.map_none, Option.bind_some, List.replicate, List.lookup, List.nodup_nil, List.nodup_cons, List.not_mem_nil, List.mem_cons, if_true, if_false, Bool.not_true, Bool.not_false, Bool.false_eq_true, not_true, not_false_iff, and_true, true_and, reduceIte, Nat.reduceLT, Nat.reduceLeDiff, Nat.reduceAdd, beq_self_eq_true, Nat.reduceBEq, Nat.reduceEqDiff, reduceCtorEq, h1, e, decide_true]
  · have h1 : ((k : Int) < (ns.length : Int)) = False := by simp; omega
    refine ⟨15491279 * k + 617, ?_⟩
    have e := gmul (i := 15491279) (by decide) k
    unfold f_l_cell m_l_cell
    simp only [runF, startE, iosE, sSeq, sRet, sIf, sExp, sNil, sSet, sSetO, thenS, sPut, sApp, sAsg, sFor, sBrk, gNm, gTp, gCn, gNl, Rx.bind, liftO, mC, mVar, mFrz, xVar, xE, aNil, aCons, xsNil, xsCons, mLst, mTup, mBin, mUn, mTst, tNt, tAn, tOrr, vAn, vOr, vNt, asB, mIf, mBlt, mChn, mSl, oNo, oSo, asI, deref, derefs, slotV, putSl, mCall, callZ, argsOf, ioS, backIo, mMeth, mMeth0, mFld, mProp, Rx.nox, mIxO, allD, mMake, madeZ, sFldP, putN, mIsi, gIsi, tyS, isObj', iSeq, iEnm, iObj, mAddO, tyMo, tyM, tysS, mCmpO, gAdd, Pu.gSub, gDiv, gMod, gInt, gLt, gLen, gSum, gMax2, gMin2, gLstOf, gTupOf, gSl, gNeg, gAll, itemsOf, List.getElem?_cons_zero, List.getElem?_cons_succ, List.getElem?_nil, List.set_cons_zero, List.set_cons_succ, List.length_cons, List.length_nil, Option.map_some, Option.map_none, Option.bind_some, List.replicate, List.lookup, List.nodup_nil, List.nodup_cons, List.not_mem_nil, List.mem_cons, if_true, if_false, Bool.not_true, Bool.not_false, Bool.false_eq_true, not_true, not_false_iff, and_true, true_and, reduceIte, Nat.reduceLT, Nat.reduceLeDiff, Nat.reduceAdd, beq_self_eq_true, Nat.reduceBEq, Nat.reduceEqDiff, reduceCtorEq, h1, e, decide_false]
/-- a box of draws: at most n of its own were drawn -/
def Bx (n : Nat) (d : D) : Prop := ∃ a b c : Int, d = .lst [.int a, .int b, .int c] ∧ 0 ≤ b ∧ b < 2147483629 ∧ 0 ≤ c ∧ c ≤ n
theorem Bx.le {n m : Nat} {d : D} (h : Bx n d) (l : n ≤ m) : Bx m d := by
  obtain ⟨a, b, c, e, h0, h1, h2, h3⟩ := h
  exact ⟨a, b, c, e, h0, h1, h2, by omega⟩
theorem v_bag (v : Int) : ∃ d, f_l_bag [.int v] = .ok d [] ∧ Bx 0 d := by
  have e := gpow (i := 10) (j := 18) (by decide) (by decide) (by decide)
  refine ⟨.lst [.int (if v - 10 ^ (18 : Int).toNat > 0 then v - 10 ^ (18 : Int).toNat else 0), .int (v.fmod 2147483629), .int 0], ?_, _, _, _, rfl, Int.fmod_nonneg_of_pos _ (by decide), Int.fmod_lt_of_pos _ (by decide), by omega, by omega⟩
  generalize (10 : Int) ^ (18 : Int).toNat = P at e ⊢
  have n0 : (2147483629 : Int) ≠ 0 := by decide
  unfold f_l_bag m_l_bag
  simp only [runF, startE, iosE, sSeq, sRet, sIf, sExp, sNil, sSet, sSetO, thenS, sPut, sApp, sAsg, sFor, sBrk, gNm, gTp, gCn, gNl, Rx.bind, liftO, mC, mVar, mFrz, xVar, xE, aNil, aCons, xsNil, xsCons, mLst, mTup, mBin, mUn, mTst, tNt, tAn, tOrr, vAn, vOr, vNt, asB, mIf, mBlt, mChn, mSl, oNo, oSo, asI, deref, derefs, slotV, putSl, mCall, callZ, argsOf, ioS, backIo, mMeth, mMeth0, mFld, mProp, Rx.nox, mIxO, allD, mMake, madeZ, sFldP, putN, mIsi, gIsi, tyS, isObj', iSeq, iEnm, iObj, mAddO, tyMo, tyM, tysS, mCmpO, gAdd, Pu.gSub, gDiv, gMod, gInt, gLt, gLen, gSum, gMax2, gMin2, gLstOf, gTupOf, gSl, gNeg, gAll, itemsOf, List.getElem?_cons_zero, List.getElem?_cons_succ, List.getElem?_nil, List.set_cons_zero, List.set_cons_succ, List.length_cons, List.length_nil, Option.map_some, Option.map_none, Option.bind_some, List.replicate, List.lookup, List.nodup_nil, List.nodup_cons, List.not_mem_nil, List.mem_cons, if_true, if_false, Bool.not_true, Bool.not_false, Bool.false_eq_true, not_true, not_false_iff, and_true, true_and, reduceIte, Nat.reduceLT, Nat.reduceLeDiff, Nat.reduceAdd, beq_self_eq_true, Nat.reduceBEq, Nat.reduceEqDiff, reduceCtorEq, e, n0, s3, ne_eq]
theorem nz {m : Int} (h : 0 < m) : m ≠ 0 := by omega
theorem v_take {n : Nat} {d : D} (b : Bx n d) {m : Int} (h0 : 0 < m) (h1 : m < 2000000) (hn : n ≤ 1000000) : ∃ r d', f_l_take [d, .int m] = .ok (.int r) [d'] ∧ 0 ≤ r ∧ r < m ∧ Bx (n + 1) d' := by
  obtain ⟨a, b, c, rfl, b0, b1, c0, c1⟩ := b
  have m0 : ¬ m = 0 := by omega
  have m1 : m.natAbs < 1073741824 := by omega
  have k0 : L2.ixN 3 0 = some 0 := rfl
  have k2 : L2.ixN 3 2 = some 2 := rfl
  by_cases ha : 0 < a
  · refine ⟨a.fmod m, .lst [.int (a.fdiv m), .int b, .int c], ?_, Int.fmod_nonneg_of_pos _ h0, Int.fmod_lt_of_pos _ h0, _, _, _, rfl, b0, b1, c0, by omega⟩
    unfold f_l_take m_l_take
    simp only [runF, startE, iosE, sSeq, sRet, sIf, sExp, sNil, sSet, sSetO, thenS, sPut, sApp, sAsg, sFor, sBrk, gNm, gTp, gCn, gNl, Rx.bind, liftO, mC, mVar, mFrz, xVar, xE, aNil, aCons, xsNil, xsCons, mLst, mTup, mBin, mUn, mTst, tNt, tAn, tOrr, vAn, vOr, vNt, asB, mIf, mBlt, mChn, mSl, oNo, oSo, asI, deref, derefs, slotV, putSl, mCall, callZ, argsOf, ioS, backIo, mMeth, mMeth0, mFld, mProp, Rx.nox, mIxO, allD, mMake, madeZ, sFldP, putN, mIsi, gIsi, tyS, isObj', iSeq, iEnm, iObj, mAddO, tyMo, tyM, tysS, mCmpO, gAdd, Pu.gSub, gDiv, gMod, gInt, gLt, gLen, gSum, gMax2, gMin2, gLstOf, gTupOf, gSl, gNeg, gAll, itemsOf, List.getElem?_cons_zero, List.getElem?_cons_succ, List.getElem?_nil, List.set_cons_zero, List.set_cons_succ, List.length_cons, List.length_nil, Option.map_some, Option.map_none, Option.bind_some, List.replicate, List.lookup, List.nodup_nil, List.nodup_cons, List.not_mem_nil, List.mem_cons, if_true, if_false, Bool.not_true, Bool.not_false, Bool.false_eq_true, not_true, not_false_iff, and_true, true_and, reduceIte, Nat.reduceLT, Nat.reduceLeDiff, Nat.reduceAdd, beq_self_eq_true, Nat.reduceBEq, Nat.reduceEqDiff, reduceCtorEq, ix0, ix1, ix2, ha, decide_true, m0, m1, k0, k2, ne_eq]
  · have g1 := gmul (i := 15491279) (by decide) (c + 1)
    have g2 := gmul (i := 103177) (by decide) (c + 1)
    have p1 := gpow (i := b + 15491279 * (c + 1) + 617) (j := 5) (by decide) (by decide) (by
      have : b + 15491279 * (c + 1) + 617 < 18446744073709551616 := by omega
      have : 0 ≤ b + 15491279 * (c + 1) + 617 := by omega
      show (b + 15491279 * (c + 1) + 617).natAbs < 18446744073709551616
      omega)
    generalize (b + 15491279 * (c + 1) + 617) ^ (5 : Int).toNat = x at p1
    have y0 := Int.fmod_nonneg_of_pos x (show (0 : Int) < 2147483647 by decide)
    have y1 := Int.fmod_lt_of_pos x (show (0 : Int) < 2147483647 by decide)
    generalize hy : x.fmod 2147483647 = y at y0 y1
    have p2 := gpow (i := y + 103177 * (c + 1)) (j := 3) (by decide) (by decide) (by
      have : y + 103177 * (c + 1) < 18446744073709551616 := by omega
      show (y + 103177 * (c + 1)).natAbs < 18446744073709551616
      omega)
    generalize (y + 103177 * (c + 1)) ^ (3 : Int).toNat = u at p2
    have n1 : ¬ (2147483647 : Int) = 0 := by decide
    have n2 : ¬ (2147483587 : Int) = 0 := by decide
    have n3 : ¬ (16 : Int) = 0 := by decide
    have n4 : (16 : Int).natAbs < 1073741824 := by decide
    refine ⟨((u.fmod 2147483587).fdiv 16).fmod m, .lst [.int a, .int b, .int (c + 1)], ?_, Int.fmod_nonneg_of_pos _ h0, Int.fmod_lt_of_pos _ h0, _, _, _, rfl, b0, b1, by omega, by omega⟩
    unfold f_l_take m_l_take
    simp only [runF, startE, iosE, sSeq, sRet, sIf, sExp, sNil, sSet, sSetO, thenS, sPut, sApp, sAsg, sFor, sBrk, gNm, gTp, gCn, gNl, Rx.bind, liftO, mC, mVar, mFrz, xVar, xE, aNil, aCons, xsNil, xsCons, mLst, mTup, mBin, mUn, mTst, tNt, tAn, tOrr, vAn, vOr, vNt, asB, mIf, mBlt, mChn, mSl, oNo, oSo, asI, deref, derefs, slotV, putSl, mCall, callZ, argsOf, ioS, backIo, mMeth, mMeth0, mFld, mProp, Rx.nox, mIxO, allD, mMake, madeZ, sFldP, putN, mIsi, gIsi, tyS, isObj', iSeq, iEnm, iObj, mAddO, tyMo, tyM, tysS, mCmpO, gAdd, Pu.gSub, gDiv, gMod, gInt, gLt, gLen, gSum, gMax2, gMin2, gLstOf, gTupOf, gSl, gNeg, gAll, itemsOf, List.getElem?_cons_zero, List.getElem?_cons_succ, List.getElem?_nil, List.set_cons_zero, List.set_cons_succ, List.length_cons, List.length_nil, Option.map_some, Option.map_none, Option.bind_some, List.replicate, List.lookup, List.nodup_nil, List.nodup_cons, List.not_mem_nil, List.mem_cons, if_true, if_false, Bool.not_true, Bool.not_false, Bool.false_eq_true, not_true, not_false_iff, and_true, true_and, reduceIte, Nat.reduceLT, Nat.reduceLeDiff, Nat.reduceAdd, beq_self_eq_true, Nat.reduceBEq, Nat.reduceEqDiff, reduceCtorEq, ix0, ix1, ix2, ha, decide_false, m0, m1, k0, k2, ne_eq, g1, g2, p1, hy, p2, n1, n2, n3, n4]
/-- one of a row -/
theorem pick (l : List Int) {r : Int} (h0 : 0 ≤ r) (h1 : r < l.length) : ∃ v, v ∈ l ∧ gIx (.lst (l.map D.int)) (.int r) = some (.int v) := by
  obtain ⟨n, rfl⟩ : ∃ n : Nat, r = n := ⟨r.toNat, by omega⟩
  have hn : n < l.length := by omega
  exact ⟨l[n], List.getElem_mem hn, ix_nat (by rw [List.getElem?_map, List.getElem?_eq_getElem hn]; rfl)⟩
theorem v_char {n : Nat} {d : D} (b : Bx n d) (hn : n ≤ 900000) : ∃ c d', f_l_char [d] = .ok (.int c) [d'] ∧ Gc c ∧ Bx (n + 10) d' := by
  obtain ⟨r1, d1, e1, a1, c1, b1⟩ := v_take b (m := 2) (by decide) (by decide) (by omega)
  by_cases h3 : r1 = 0
  · subst h3
    have q : gEq (.int 0) (.int 0) = some (.bl true) := gEq_int 0 0
    obtain ⟨r2, d2, e2, a2, c2, b2⟩ := v_take b1 (m := 13) (by decide) (by decide) (by omega)
    obtain ⟨v2, m2, p2⟩ := pick [0, 10, 13, 97, 127, 128, 2047, 2048, 55295, 57344, 65535, 65536, 1114111] a2 c2
    simp only [List.map_cons, List.map_nil] at p2
    refine ⟨v2, d2, ?_, ?_, b2.le (by omega)⟩
    · unfold f_l_char m_l_char
      simp only [runF, startE, iosE, sSeq, sRet, sIf, sExp, sNil, sSet, sSetO, thenS, sPut, sApp, sAsg, sFor, sBrk, gNm, gTp, gCn, gNl, Rx.bind, liftO, mC, mVar, mFrz, xVar, xE, aNil, aCons, xsNil, xsCons, mLst, mTup, mBin, mUn, mTst, tNt, tAn, tOrr, vAn, vOr, vNt, asB, mIf, mBlt, mChn, mSl, oNo, oSo, asI, deref, derefs, slotV, putSl, mCall, callZ, argsOf, ioS, backIo, mMeth, mMeth0, mFld, mProp, Rx.nox, mIxO, allD, mMake, madeZ, sFldP, putN, mIsi, gIsi, tyS, isObj', iSeq, iEnm, iObj, mAddO, tyMo, tyM, tysS, mCmpO, gAdd, Pu.gSub, gDiv, gMod, gInt, gLt, gLen, gSum, gMax2, gMin2, gLstOf, gTupOf, gSl, gNeg, gAll, itemsOf, List.getElem?_cons_zero, List.getElem?_cons_succ, List.getElem?_nil, List.set_cons_zero, List.set_cons_succ, List.length_cons, List.length_nil, Option.map_some, Option.map_none, Option.bind_some, List.replicate, List.lookup, List.nodup_nil, List.nodup_cons, List.not_mem_nil, List.mem_cons, if_true, if_false, Bool.not_true, Bool.not_false, Bool.false_eq_true, not_true, not_false_iff, and_true, true_and, reduceIte, Nat.reduceLT, Nat.reduceLeDiff, Nat.reduceAdd, beq_self_eq_true, Nat.reduceBEq, Nat.reduceEqDiff, reduceCtorEq, e1, q, e2, p2, s13]
    · simp only [List.mem_cons, List.not_mem_nil, or_false] at m2
      unfold Gc
      omega
  have q : gEq (.int r1) (.int 0) = some (.bl false) := by
    rw [gEq_int]
    simp [h3]
  obtain ⟨r2, d2, e2, a2, c2, b2⟩ := v_take b1 (m := 5) (by decide) (by decide) (by omega)
  have hp : ∃ lo hi : Int, gIx (.lst [.tup [.int 0, .int 127], .tup [.int 128, .int 2047], .tup [.int 2048, .int 55295], .tup [.int 57344, .int 65535], .tup [.int 65536, .int 1114111]]) (.int r2) = some (.tup [.int lo, .int hi]) ∧ lo < hi ∧ hi < lo + 1100000 ∧ ∀ x, lo ≤ x → x ≤ hi → Gc x := by
    have : r2 = 0 ∨ r2 = 1 ∨ r2 = 2 ∨ r2 = 3 ∨ r2 = 4 := by omega
    rcases this with rfl | rfl | rfl | rfl | rfl
    · exact ⟨0, 127, ix_nat (n := 0) rfl, by omega, by omega, fun x _ _ => by unfold Gc; omega⟩
    · exact ⟨128, 2047, ix_nat (n := 1) rfl, by omega, by omega, fun x _ _ => by unfold Gc; omega⟩
    · exact ⟨2048, 55295, ix_nat (n := 2) rfl, by omega, by omega, fun x _ _ => by unfold Gc; omega⟩
    · exact ⟨57344, 65535, ix_nat (n := 3) rfl, by omega, by omega, fun x _ _ => by unfold Gc; omega⟩
    · exact ⟨65536, 1114111, ix_nat (n := 4) rfl, by omega, by omega, fun x _ _ => by unfold Gc; omega⟩
  obtain ⟨lo, hi, ep, l1, l2, lg⟩ := hp
  obtain ⟨r3, d3, e3, a3, c3, b3⟩ := v_take b2 (m := hi - lo + 1) (by omega) (by omega) (by omega)
  refine ⟨lo + r3, d3, ?_, lg _ (by omega) (by omega), b3.le (by omega)⟩
  unfold f_l_char m_l_char
  simp only [runF, startE, iosE, sSeq, sRet, sIf, sExp, sNil, sSet, sSetO, thenS, sPut, sApp, sAsg, sFor, sBrk, gNm, gTp, gCn, gNl, Rx.bind, liftO, mC, mVar, mFrz, xVar, xE, aNil, aCons, xsNil, xsCons, mLst, mTup, mBin, mUn, mTst, tNt, tAn, tOrr, vAn, vOr, vNt, asB, mIf, mBlt, mChn, mSl, oNo, oSo, asI, deref, derefs, slotV, putSl, mCall, callZ, argsOf, ioS, backIo, mMeth, mMeth0, mFld, mProp, Rx.nox, mIxO, allD, mMake, madeZ, sFldP, putN, mIsi, gIsi, tyS, isObj', iSeq, iEnm, iObj, mAddO, tyMo, tyM, tysS, mCmpO, gAdd, Pu.gSub, gDiv, gMod, gInt, gLt, gLen, gSum, gMax2, gMin2, gLstOf, gTupOf, gSl, gNeg, gAll, itemsOf, List.getElem?_cons_zero, List.getElem?_cons_succ, List.getElem?_nil, List.set_cons_zero, List.set_cons_succ, List.length_cons, List.length_nil, Option.map_some, Option.map_none, Option.bind_some, List.replicate, List.lookup, List.nodup_nil, List.nodup_cons, List.not_mem_nil, List.mem_cons, if_true, if_false, Bool.not_true, Bool.not_false, Bool.false_eq_true, not_true, not_false_iff, and_true, true_and, reduceIte, Nat.reduceLT, Nat.reduceLeDiff, Nat.reduceAdd, beq_self_eq_true, Nat.reduceBEq, Nat.reduceEqDiff, reduceCtorEq, e1, q, e2, ep, e3, s2, s5, s13]
theorem lp_chars : ∀ (ds : List D) (acc : List Int) (n : Nat) (d : D) (x1 : Sl), Bx n d → n + 10 * ds.length ≤ 800000 → acc.length + ds.length < 1000000 →
    ∃ cs d', lcL (gNm 2) tYs (mCall f_l_char [true] (xsCons (xVar 0) xsNil)) [2] ds (acc.map D.int) [.io d, x1, .no] = .ok ((acc ++ cs).map D.int) [.io d', x1, .no] ∧ Good cs ∧ cs.length = ds.length ∧ Bx (n + 10 * ds.length) d'
  | [], acc, n, d, x1, b, _, _ => ⟨[], d, by simp [lcL], fun c m => by simp at m, rfl, b.le (by simp)⟩
  | y :: ds, acc, n, d, x1, b, hn, hl => by
    simp only [List.length_cons] at hn hl
    obtain ⟨c, d1, e1, g1, b1⟩ := v_char b (by omega)
    obtain ⟨cs, d2, e2, g2, l2, b2⟩ := lp_chars ds (acc ++ [c]) (n + 10) d1 x1 b1 (by omega) (by simp only [List.length_append, List.length_cons, List.length_nil]; omega)
    have hz : (acc.map D.int).length < sizeLine := by
      rw [szl, List.length_map]
      omega
    refine ⟨c :: cs, d2, ?_, fun z m => ?_, by simp [l2], b2.le (by simp only [List.length_cons]; omega)⟩
    · rw [lcL]
      simp only [runF, startE, iosE, sSeq, sRet, sIf, sExp, sNil, sSet, sSetO, thenS, sPut, sApp, sAsg, sFor, sBrk, gNm, gTp, gCn, gNl, Rx.bind, liftO, mC, mVar, mFrz, xVar, xE, aNil, aCons, xsNil, xsCons, mLst, mTup, mBin, mUn, mTst, tNt, tAn, tOrr, vAn, vOr, vNt, asB, mIf, mBlt, mChn, mSl, oNo, oSo, asI, deref, derefs, slotV, putSl, mCall, callZ, argsOf, ioS, backIo, mMeth, mMeth0, mFld, mProp, Rx.nox, mIxO, allD, mMake, madeZ, sFldP, putN, mIsi, gIsi, tyS, isObj', iSeq, iEnm, iObj, mAddO, tyMo, tyM, tysS, mCmpO, gAdd, Pu.gSub, gDiv, gMod, gInt, gLt, gLen, gSum, gMax2, gMin2, gLstOf, gTupOf, gSl, gNeg, gAll, itemsOf, List.getElem?_cons_zero, List.getElem?_cons_succ, List.getElem?_nil, List.set_cons_zero, List.set_cons_succ, List.length_cons, List.length_nil, Option.map_some, Option.map_none, Option.bind_some, List.replicate, List.lookup, List.nodup_nil, List.nodup_cons, List.not_mem_nil, List.mem_cons, if_true, if_false, Bool.not_true, Bool.not_false, Bool.false_eq_true, not_true, not_false_iff, and_true, true_and, reduceIte, Nat.reduceLT, Nat.reduceLeDiff, Nat.reduceAdd, beq_self_eq_true, Nat.reduceBEq, Nat.reduceEqDiff, reduceCtorEq, tYs, e1, hz, wipeE]
      have q1 : acc.map D.int ++ [.int c] = (acc ++ [c]).map D.int := by simp
      have q2 : acc ++ c :: cs = acc ++ [c] ++ cs := by simp
      rw [q1, q2]
      exact e2
    · rcases List.mem_cons.mp m with rfl | m
      · exact g1
      · exact g2 z m
theorem v_chars {n : Nat} {d : D} (b : Bx n d) (hn : n ≤ 700000) {most : Int} (h0 : 0 ≤ most) (h1 : most ≤ 100) : ∃ cs d', f_l_chars [d, .int most] = .ok (.lst (cs.map D.int)) [d'] ∧ Good cs ∧ (cs.length : Int) ≤ most ∧ Bx (n + 2000) d' := by
  obtain ⟨m, d1, e1, a1, c1, b1⟩ := v_take b (m := most + 1) (by omega) (by omega) (by omega)
  obtain ⟨cs, d6, e6, g6, l6, b6⟩ := lp_chars (rngD 0 m.toNat) [] (n + 1) d1 (.dat (.int most)) b1 (by rw [rng_len]; omega) (by rw [rng_len]; simp only [List.length_nil]; omega)
  rw [rng_len] at l6 b6
  refine ⟨cs, d6, ?_, g6, by omega, b6.le (by omega)⟩
  have hM : mCall f_l_take [true, false] (xsCons (xVar 0) (xsCons (xE (mBin gAdd (xVar 1) (xE (mC (.int 1))))) xsNil)) [.io d, .dat (.int most), .no] = .ok (.int m) [.io d1, .dat (.int most), .no] := by
    simp only [runF, startE, iosE, sSeq, sRet, sIf, sExp, sNil, sSet, sSetO, thenS, sPut, sApp, sAsg, sFor, sBrk, gNm, gTp, gCn, gNl, Rx.bind, liftO, mC, mVar, mFrz, xVar, xE, aNil, aCons, xsNil, xsCons, mLst, mTup, mBin, mUn, mTst, tNt, tAn, tOrr, vAn, vOr, vNt, asB, mIf, mBlt, mChn, mSl, oNo, oSo, asI, deref, derefs, slotV, putSl, mCall, callZ, argsOf, ioS, backIo, mMeth, mMeth0, mFld, mProp, Rx.nox, mIxO, allD, mMake, madeZ, sFldP, putN, mIsi, gIsi, tyS, isObj', iSeq, iEnm, iObj, mAddO, tyMo, tyM, tysS, mCmpO, gAdd, Pu.gSub, gDiv, gMod, gInt, gLt, gLen, gSum, gMax2, gMin2, gLstOf, gTupOf, gSl, gNeg, gAll, itemsOf, List.getElem?_cons_zero, List.getElem?_cons_succ, List.getElem?_nil, List.set_cons_zero, List.set_cons_succ, List.length_cons, List.length_nil, Option.map_some, Option.map_none, Option.bind_some, List.replicate, List.lookup, List.nodup_nil, List.nodup_cons, List.not_mem_nil, List.mem_cons, if_true, if_false, Bool.not_true, Bool.not_false, Bool.false_eq_true, not_true, not_false_iff, and_true, true_and, reduceIte, Nat.reduceLT, Nat.reduceLeDiff, Nat.reduceAdd, beq_self_eq_true, Nat.reduceBEq, Nat.reduceEqDiff, reduceCtorEq, e1]
  have i1 := irn1 hM a1 (by omega)
  simp only [List.map_nil, List.nil_append] at e6
  unfold f_l_chars m_l_chars
  simp only [runF, startE, iosE, sSeq, sRet, sIf, sExp, sNil, sSet, sSetO, thenS, sPut, sApp, sAsg, sFor, sBrk, gNm, gTp, gCn, gNl, Rx.bind, liftO, mC, mVar, mFrz, xVar, xE, aNil, aCons, xsNil, xsCons, mLst, mTup, mBin, mUn, mTst, tNt, tAn, tOrr, vAn, vOr, vNt, asB, mIf, mBlt, mChn, mSl, oNo, oSo, asI, deref, derefs, slotV, putSl, mCall, callZ, argsOf, ioS, backIo, mMeth, mMeth0, mFld, mProp, Rx.nox, mIxO, allD, mMake, madeZ, sFldP, putN, mIsi, gIsi, tyS, isObj', iSeq, iEnm, iObj, mAddO, tyMo, tyM, tysS, mCmpO, gAdd, Pu.gSub, gDiv, gMod, gInt, gLt, gLen, gSum, gMax2, gMin2, gLstOf, gTupOf, gSl, gNeg, gAll, itemsOf, List.getElem?_cons_zero, List.getElem?_cons_succ, List.getElem?_nil, List.set_cons_zero, List.set_cons_succ, List.length_cons, List.length_nil, Option.map_some, Option.map_none, Option.bind_some, List.replicate, List.lookup, List.nodup_nil, List.nodup_cons, List.not_mem_nil, List.mem_cons, if_true, if_false, Bool.not_true, Bool.not_false, Bool.false_eq_true, not_true, not_false_iff, and_true, true_and, reduceIte, Nat.reduceLT, Nat.reduceLeDiff, Nat.reduceAdd, beq_self_eq_true, Nat.reduceBEq, Nat.reduceEqDiff, reduceCtorEq, mLc, i1, datAt, List.map_cons, List.map_nil, List.all_cons, List.all_nil, Bool.and_true, Bool.and_self, wipeE, e6, backE, List.getD_eq_getElem?_getD, Option.getD_some]
end Tc

/-! # K3 -/
namespace Tc
open PySem Pu
def okB (z : Option D) (b : Bool) : Bool := match z with
  | some (.bl x) => x == b
  | _ => false
theorem okB_of {z : Option D} {b : Bool} (h : okB z b = true) : z = some (.bl b) := by
  unfold okB at h
  split at h
  · rw [beq_iff_eq.mp h]
  · cases h
theorem gx_xvd {env : Env'} {i : Nat} {d : D} (h : env[i]? = some (.dat d)) : xVar i env = .ok (.inr i) env := by
  unfold xVar
  rw [h]
inductive Kd
  | b
  | u
  | c
def Kd.s : Kd → Str
  | .b => "bytes"
  | .u => "units"
  | .c => "chars"
def bys (c : Int) : List Int := if c < 128 then [c] else if c < 2048 then [192 + c / 64, 128 + c % 64] else if c < 65536 then [224 + c / 64 / 64, 128 + c / 64 % 64, 128 + c % 64] else [240 + c / 64 / 64 / 64, 128 + c / 64 / 64 % 64, 128 + c / 64 % 64, 128 + c % 64]
def uns (c : Int) : List Int := if c < 65536 then [c] else [55296 + (c - 65536) / 1024, 56320 + (c - 65536) % 1024]
def its : Kd → Int → List Int
  | .b => bys
  | .u => uns
  | .c => fun c => [c]
def wid (c : Int) : Int := if c < 128 then 1 else if c < 2048 then 2 else if c < 65536 then 3 else 4
theorem v_byte_width (c : Int) : f_byte_width [.int c] = .ok (.int (wid c)) [] := by
  have l (n : Int) : gLt (.int c) (.int n) = some (.bl (decide (c < n))) := rfl
  have t (n : Int) : (mTst (mBin gLt (xVar 0) (xE (mC (.int 128))))) [.dat (.int c)] = .ok (decide (c < 128)) [.dat (.int c)] := gx_tst (gx_bin (gx_xvd rfl) (gx_e (gx_c _ _)) rfl rfl (l 128))
  have t1 : (mTst (mBin gLt (xVar 0) (xE (mC (.int 2048))))) [.dat (.int c)] = .ok (decide (c < 2048)) [.dat (.int c)] := gx_tst (gx_bin (gx_xvd rfl) (gx_e (gx_c _ _)) rfl rfl (l 2048))
  have t2 : (mTst (mBin gLt (xVar 0) (xE (mC (.int 65536))))) [.dat (.int c)] = .ok (decide (c < 65536)) [.dat (.int c)] := gx_tst (gx_bin (gx_xvd rfl) (gx_e (gx_c _ _)) rfl rfl (l 65536))
  unfold f_byte_width m_byte_width wid
  refine run_rt (e0 := [.dat (.int c)]) (e1 := [.dat (.int c)]) rfl ?_ rfl
  by_cases h1 : c < 128
  · rw [if_pos h1]
    rw [decide_eq_true h1] at t
    exact gs_seq (o := .rt (.int 1) [.dat (.int c)]) (gs_if (t 0) (gx_iteT (gs_ret (gx_c _ _)))) rfl
  rw [if_neg h1]
  rw [decide_eq_false h1] at t
  refine gs_seq (gs_if (t 0) (gx_iteF (gs_nil _))) (gs_nx ?_)
  by_cases h2 : c < 2048
  · rw [if_pos h2]
    rw [decide_eq_true h2] at t1
    exact gs_seq (o := .rt (.int 2) [.dat (.int c)]) (gs_if t1 (gx_iteT (gs_ret (gx_c _ _)))) rfl
  rw [if_neg h2]
  rw [decide_eq_false h2] at t1
  refine gs_seq (gs_if t1 (gx_iteF (gs_nil _))) (gs_nx ?_)
  by_cases h3 : c < 65536
  · rw [if_pos h3]
    rw [decide_eq_true h3] at t2
    exact gs_seq (o := .rt (.int 3) [.dat (.int c)]) (gs_if t2 (gx_iteT (gs_ret (gx_c _ _)))) rfl
  rw [if_neg h3]
  rw [decide_eq_false h3] at t2
  exact gs_seq (gs_if t2 (gx_iteF (gs_nil _))) (gs_nx (gs_ret (gx_c _ _)))
def BE (c w : Int) (b : List Int) (r : Int) : Env' := [.dat (.int c), .dat (.int w), .dat (.lst (b.map D.int)), .dat (.int r)]
abbrev bT : Mt := (mTst (mBin gLt (xE (mBlt gLen (xsCons (xVar 2) xsNil))) (xE (mBin gSub (xVar 1) (xE (mC (.int 1)))))))
abbrev bB : Ms := (sSeq (sSet 2 (mBin gCat (xE (mLst (aCons (mBin gAdd (xE (mC (.int 128))) (xE (mBin gMod (xVar 3) (xE (mC (.int 64)))))) aNil))) (xVar 2))) (sSet 3 (mBin gDiv (xVar 3) (xE (mC (.int 64))))))
theorem b_t (c w r : Int) (b : List Int) : bT (BE c w b r) = .ok (decide ((b.length : Int) < w - 1)) (BE c w b r) := by
  have gl : gLen [.lst (b.map D.int)] = some (.int (b.length : Nat)) := by
    show some (D.int ((b.map D.int).length : Nat)) = _
    rw [List.length_map]
  have gs : gSub (.int w) (.int 1) = some (.int (w - 1)) := rfl
  have lt : gLt (.int (b.length : Nat)) (.int (w - 1)) = some (.bl (decide ((b.length : Int) < w - 1))) := rfl
  exact gx_tst (gx_bin (gx_e (gx_blt (gx_xc (gx_xvd rfl) (gx_xn _)) rfl gl)) (gx_e (gx_bin (gx_xvd rfl) (gx_e (gx_c _ _)) rfl rfl gs)) rfl rfl lt)
theorem b_b (c w r : Int) (b : List Int) (h : b.length ≤ 10) : bB (BE c w b r) = .nx (BE c w ((128 + r % 64) :: b) (r / 64)) := by
  have gm : gMod (.int r) (.int 64) = some (.int (r % 64)) := by
    show (if (64 : Int) ≠ 0 then some (D.int (r.fmod 64)) else none) = _
    rw [if_pos (by decide), Int.fmod_eq_emod_of_nonneg _ (by decide)]
  have gd : gDiv (.int r) (.int 64) = some (.int (r / 64)) := by
    show (if (64 : Int) ≠ 0 ∧ (64 : Int).natAbs < 1073741824 then some (D.int (r.fdiv 64)) else none) = _
    rw [if_pos (by decide), Int.fdiv_eq_ediv_of_nonneg _ (by decide)]
  have ga : gAdd (.int 128) (.int (r % 64)) = some (.int (128 + r % 64)) := rfl
  have gc : gCat (.lst [.int (128 + r % 64)]) (.lst (b.map D.int)) = some (.lst (((128 + r % 64) :: b).map D.int)) := by
    rw [gcat_l (by rw [List.length_map]; simp only [List.length_cons, List.length_nil]; omega)]
    rfl
  exact gs_seq (gs_set (gx_bin (gx_e (gx_lst (gx_ac (gx_bin (gx_e (gx_c _ _)) (gx_e (gx_bin (gx_xvd rfl) (gx_e (gx_c _ _)) rfl rfl gm)) rfl rfl ga) (gx_an _)) rfl)) (gx_xvd rfl) rfl rfl gc) rfl rfl) (gs_nx (gs_set (gx_bin (gx_xvd rfl) (gx_e (gx_c _ _)) rfl rfl gd) rfl rfl))
theorem b_end {c w r v : Int} {b : List Int} (h : b.length ≤ 10) (g : gTab [(1, 0), (2, 192), (3, 224), (4, 240)] (.int w) = some (.int v)) : (sRet (mBin gCat (xE (mLst (aCons (mBin gAdd (xE (mUn (gTab [(1, 0), (2, 192), (3, 224), (4, 240)]) (xVar 1))) (xVar 3)) aNil))) (xVar 2))) (BE c w b r) = .rt (.lst (((v + r) :: b).map D.int)) (BE c w b r) := by
  have ga : gAdd (.int v) (.int r) = some (.int (v + r)) := rfl
  have gc : gCat (.lst [.int (v + r)]) (.lst (b.map D.int)) = some (.lst (((v + r) :: b).map D.int)) := by
    rw [gcat_l (by rw [List.length_map]; simp only [List.length_cons, List.length_nil]; omega)]
    rfl
  exact gs_ret (gx_bin (gx_e (gx_lst (gx_ac (gx_bin (gx_e (gx_un (gx_xvd rfl) rfl g)) (gx_xvd rfl) rfl rfl ga) (gx_an _)) rfl)) (gx_xvd rfl) rfl rfl gc)
theorem v_byte_items (c : Int) : f_byte_items [.int c] = .ok (.lst ((bys c).map D.int)) [] := by
  have e1 := v_byte_width c
  have s0 : (sSet 1 (mCall f_byte_width [false] (xsCons (xE (mVar 0)) xsNil))) [.dat (.int c), .no, .no, .no] = .nx [.dat (.int c), .dat (.int (wid c)), .no, .no] := gs_set (gx_call (gx_xc (gx_e (gx_var rfl)) (gx_xn _)) rfl rfl List.nodup_nil e1 rfl) rfl rfl
  have s1 : (sSet 2 (mLst aNil)) [.dat (.int c), .dat (.int (wid c)), .no, .no] = .nx [.dat (.int c), .dat (.int (wid c)), .dat (.lst ([].map D.int)), .no] := gs_set (gx_lst (gx_an _) rfl) rfl rfl
  have s2 : (sSet 3 (mVar 0)) [.dat (.int c), .dat (.int (wid c)), .dat (.lst ([].map D.int)), .no] = .nx (BE c (wid c) [] c) := gs_set (gx_var rfl) rfl rfl
  have wt : ∀ {w r : Int} {b : List Int} {n : Nat} {o : Out}, (b.length : Int) < w - 1 → b.length ≤ 10 → whlL bT bB n (BE c w ((128 + r % 64) :: b) (r / 64)) = o → whlL bT bB (n + 1) (BE c w b r) = o := fun {w r b n o} h hl h3 => wh_t (by rw [b_t, decide_eq_true h]) (b_b c w r b hl) h3
  have wf : ∀ {w r : Int} {b : List Int} {n : Nat}, ¬ (b.length : Int) < w - 1 → whlL bT bB (n + 1) (BE c w b r) = .nx (BE c w b r) := fun {w r b n} h => wh_f (by rw [b_t, decide_eq_false h])
  have key : ∃ w b r, m_byte_items [.dat (.int c), .no, .no, .no] = .rt (.lst ((bys c).map D.int)) (BE c w b r) := by
    unfold m_byte_items
    have go : ∀ {o : Out}, (sSeq (sWhl (fun _ => 10) (mTst (mBin gLt (xE (mBlt gLen (xsCons (xVar 2) xsNil))) (xE (mBin gSub (xVar 1) (xE (mC (.int 1))))))) (sSeq (sSet 2 (mBin gCat (xE (mLst (aCons (mBin gAdd (xE (mC (.int 128))) (xE (mBin gMod (xVar 3) (xE (mC (.int 64)))))) aNil))) (xVar 2))) (sSet 3 (mBin gDiv (xVar 3) (xE (mC (.int 64))))))) (sRet (mBin gCat (xE (mLst (aCons (mBin gAdd (xE (mUn (gTab [(1, 0), (2, 192), (3, 224), (4, 240)]) (xVar 1))) (xVar 3)) aNil))) (xVar 2)))) (BE c (wid c) [] c) = o → (sSeq (sSet 1 (mCall f_byte_width [false] (xsCons (xE (mVar 0)) xsNil))) (sSeq (sSet 2 (mLst aNil)) (sSeq (sSet 3 (mVar 0)) (sSeq (sWhl (fun _ => 10) (mTst (mBin gLt (xE (mBlt gLen (xsCons (xVar 2) xsNil))) (xE (mBin gSub (xVar 1) (xE (mC (.int 1))))))) (sSeq (sSet 2 (mBin gCat (xE (mLst (aCons (mBin gAdd (xE (mC (.int 128))) (xE (mBin gMod (xVar 3) (xE (mC (.int 64)))))) aNil))) (xVar 2))) (sSet 3 (mBin gDiv (xVar 3) (xE (mC (.int 64))))))) (sRet (mBin gCat (xE (mLst (aCons (mBin gAdd (xE (mUn (gTab [(1, 0), (2, 192), (3, 224), (4, 240)]) (xVar 1))) (xVar 3)) aNil))) (xVar 2))))))) [.dat (.int c), .no, .no, .no] = o := fun h => gs_seq s0 (gs_nx (gs_seq s1 (gs_nx (gs_seq s2 (gs_nx h)))))
    by_cases h1 : c < 128
    · have e : wid c = 1 := if_pos h1
      have e' : bys c = [c] := if_pos h1
      refine ⟨1, [], c, go ?_⟩
      rw [e, e']
      have w : (sWhl (fun _ => 10) (mTst (mBin gLt (xE (mBlt gLen (xsCons (xVar 2) xsNil))) (xE (mBin gSub (xVar 1) (xE (mC (.int 1))))))) (sSeq (sSet 2 (mBin gCat (xE (mLst (aCons (mBin gAdd (xE (mC (.int 128))) (xE (mBin gMod (xVar 3) (xE (mC (.int 64)))))) aNil))) (xVar 2))) (sSet 3 (mBin gDiv (xVar 3) (xE (mC (.int 64))))))) (BE c 1 [] c) = .nx (BE c 1 [] c) := wf (n := 9) (by decide)
      refine gs_seq w (gs_nx ?_)
      have := b_end (c := c) (w := 1) (r := c) (v := 0) (b := []) (by decide) rfl
      rw [Int.zero_add] at this
      exact this
    by_cases h2 : c < 2048
    · have e : wid c = 2 := by unfold wid; rw [if_neg h1, if_pos h2]
      have e' : bys c = [192 + c / 64, 128 + c % 64] := by unfold bys; rw [if_neg h1, if_pos h2]
      refine ⟨2, [128 + c % 64], c / 64, go ?_⟩
      rw [e, e']
      have w : (sWhl (fun _ => 10) (mTst (mBin gLt (xE (mBlt gLen (xsCons (xVar 2) xsNil))) (xE (mBin gSub (xVar 1) (xE (mC (.int 1))))))) (sSeq (sSet 2 (mBin gCat (xE (mLst (aCons (mBin gAdd (xE (mC (.int 128))) (xE (mBin gMod (xVar 3) (xE (mC (.int 64)))))) aNil))) (xVar 2))) (sSet 3 (mBin gDiv (xVar 3) (xE (mC (.int 64))))))) (BE c 2 [] c) = .nx (BE c 2 [128 + c % 64] (c / 64)) := wt (n := 9) (by decide) (by decide) (wf (n := 8) (by simp))
      exact gs_seq w (gs_nx (b_end (by simp) rfl))
    by_cases h3 : c < 65536
    · have e : wid c = 3 := by unfold wid; rw [if_neg h1, if_neg h2, if_pos h3]
      have e' : bys c = [224 + c / 64 / 64, 128 + c / 64 % 64, 128 + c % 64] := by unfold bys; rw [if_neg h1, if_neg h2, if_pos h3]
      refine ⟨3, [128 + c / 64 % 64, 128 + c % 64], c / 64 / 64, go ?_⟩
      rw [e, e']
      have w : (sWhl (fun _ => 10) (mTst (mBin gLt (xE (mBlt gLen (xsCons (xVar 2) xsNil))) (xE (mBin gSub (xVar 1) (xE (mC (.int 1))))))) (sSeq (sSet 2 (mBin gCat (xE (mLst (aCons (mBin gAdd (xE (mC (.int 128))) (xE (mBin gMod (xVar 3) (xE (mC (.int 64)))))) aNil))) (xVar 2))) (sSet 3 (mBin gDiv (xVar 3) (xE (mC (.int 64))))))) (BE c 3 [] c) = .nx (BE c 3 [128 + c / 64 % 64, 128 + c % 64] (c / 64 / 64)) := wt (n := 9) (by decide) (by decide) (wt (n := 8) (by simp) (by simp) (wf (n := 7) (by simp)))
      exact gs_seq w (gs_nx (b_end (by simp) rfl))
    have e : wid c = 4 := by unfold wid; rw [if_neg h1, if_neg h2, if_neg h3]
    have e' : bys c = [240 + c / 64 / 64 / 64, 128 + c / 64 / 64 % 64, 128 + c / 64 % 64, 128 + c % 64] := by unfold bys; rw [if_neg h1, if_neg h2, if_neg h3]
    refine ⟨4, [128 + c / 64 / 64 % 64, 128 + c / 64 % 64, 128 + c % 64], c / 64 / 64 / 64, go ?_⟩
    rw [e, e']
    have w : (sWhl (fun _ => 10) (mTst (mBin gLt (xE (mBlt gLen (xsCons (xVar 2) xsNil))) (xE (mBin gSub (xVar 1) (xE (mC (.int 1))))))) (sSeq (sSet 2 (mBin gCat (xE (mLst (aCons (mBin gAdd (xE (mC (.int 128))) (xE (mBin gMod (xVar 3) (xE (mC (.int 64)))))) aNil))) (xVar 2))) (sSet 3 (mBin gDiv (xVar 3) (xE (mC (.int 64))))))) (BE c 4 [] c) = .nx (BE c 4 [128 + c / 64 / 64 % 64, 128 + c / 64 % 64, 128 + c % 64] (c / 64 / 64 / 64)) := wt (n := 9) (by decide) (by decide) (wt (n := 8) (by simp) (by simp) (wt (n := 7) (by simp) (by simp) (wf (n := 6) (by simp))))
    exact gs_seq w (gs_nx (b_end (by simp) rfl))
  obtain ⟨w, b, r, k⟩ := key
  unfold f_byte_items
  exact run_rt (e0 := [.dat (.int c), .no, .no, .no]) rfl k rfl
theorem v_unit_items (c : Int) : f_unit_items [.int c] = .ok (.lst ((uns c).map D.int)) [] := by
  have l : gLt (.int c) (.int 65536) = some (.bl (decide (c < 65536))) := rfl
  have t : (mTst (mBin gLt (xVar 0) (xE (mC (.int 65536))))) [.dat (.int c), .no] = .ok (decide (c < 65536)) [.dat (.int c), .no] := gx_tst (gx_bin (gx_xvd rfl) (gx_e (gx_c _ _)) rfl rfl l)
  have gs : gSub (.int c) (.int 65536) = some (.int (c - 65536)) := rfl
  have gm : gMod (.int (c - 65536)) (.int 1024) = some (.int ((c - 65536) % 1024)) := by
    show (if (1024 : Int) ≠ 0 then some (D.int ((c - 65536).fmod 1024)) else none) = _
    rw [if_pos (by decide), Int.fmod_eq_emod_of_nonneg _ (by decide)]
  have gd : gDiv (.int (c - 65536)) (.int 1024) = some (.int ((c - 65536) / 1024)) := by
    show (if (1024 : Int) ≠ 0 ∧ (1024 : Int).natAbs < 1073741824 then some (D.int ((c - 65536).fdiv 1024)) else none) = _
    rw [if_pos (by decide), Int.fdiv_eq_ediv_of_nonneg _ (by decide)]
  have a1 : gAdd (.int 55296) (.int ((c - 65536) / 1024)) = some (.int (55296 + (c - 65536) / 1024)) := rfl
  have a2 : gAdd (.int 56320) (.int ((c - 65536) % 1024)) = some (.int (56320 + (c - 65536) % 1024)) := rfl
  unfold f_unit_items m_unit_items uns
  by_cases h : c < 65536
  · rw [if_pos h]
    rw [decide_eq_true h] at t
    exact run_rt (e0 := [.dat (.int c), .no]) rfl (gs_seq (o := .rt (.lst [.int c]) [.dat (.int c), .no]) (gs_if t (gx_iteT (gs_ret (gx_lst (gx_ac (gx_var rfl) (gx_an _)) rfl)))) rfl) rfl
  · rw [if_neg h]
    rw [decide_eq_false h] at t
    exact run_rt (e0 := [.dat (.int c), .no]) rfl (gs_seq (gs_if t (gx_iteF (gs_nil _))) (gs_nx (gs_seq (gs_set (gx_bin (gx_xvd rfl) (gx_e (gx_c _ _)) rfl rfl gs) rfl rfl) (gs_nx (gs_ret (gx_lst (gx_ac (gx_bin (gx_e (gx_c _ _)) (gx_e (gx_bin (gx_xvd rfl) (gx_e (gx_c _ _)) rfl rfl gd)) rfl rfl a1) (gx_ac (gx_bin (gx_e (gx_c _ _)) (gx_e (gx_bin (gx_xvd rfl) (gx_e (gx_c _ _)) rfl rfl gm)) rfl rfl a2) (gx_an _))) rfl)))))) rfl
theorem v_char_items (k : Kd) (c : Int) : f_char_items [.int c, .str k.s] = .ok (.lst ((its k c).map D.int)) [] := by
  have e1 := v_byte_items c
  have e2 := v_unit_items c
  have q1 : gEq (.str "bytes") (.str "bytes") = some (.bl true) := okB_of (by decide +kernel)
  have q2 : gEq (.str "units") (.str "bytes") = some (.bl false) := okB_of (by decide +kernel)
  have q3 : gEq (.str "units") (.str "units") = some (.bl true) := okB_of (by decide +kernel)
  have q4 : gEq (.str "chars") (.str "bytes") = some (.bl false) := okB_of (by decide +kernel)
  have q5 : gEq (.str "chars") (.str "units") = some (.bl false) := okB_of (by decide +kernel)
  have t1 : ∀ (s : Str) (b : Bool), gEq (.str s) (.str "bytes") = some (.bl b) → (mTst (mBin gEq (xVar 1) (xE (mC (.str "bytes"))))) [.dat (.int c), .dat (.str s)] = .ok b [.dat (.int c), .dat (.str s)] := fun s b q => gx_tst (gx_bin (gx_xvd rfl) (gx_e (gx_c _ _)) rfl rfl q)
  have t2 : ∀ (s : Str) (b : Bool), gEq (.str s) (.str "units") = some (.bl b) → (mTst (mBin gEq (xVar 1) (xE (mC (.str "units"))))) [.dat (.int c), .dat (.str s)] = .ok b [.dat (.int c), .dat (.str s)] := fun s b q => gx_tst (gx_bin (gx_xvd rfl) (gx_e (gx_c _ _)) rfl rfl q)
  unfold f_char_items m_char_items
  cases k with
  | b => exact run_rt (e0 := [.dat (.int c), .dat (.str "bytes")]) rfl (gs_seq (o := .rt (.lst ((bys c).map D.int)) [.dat (.int c), .dat (.str "bytes")]) (gs_if (t1 _ _ q1) (gx_iteT (gs_ret (gx_call (gx_xc (gx_e (gx_var rfl)) (gx_xn _)) rfl rfl List.nodup_nil e1 rfl)))) rfl) rfl
  | u => exact run_rt (e0 := [.dat (.int c), .dat (.str "units")]) rfl (gs_seq (gs_if (t1 _ _ q2) (gx_iteF (gs_nil _))) (gs_nx (gs_seq (o := .rt (.lst ((uns c).map D.int)) [.dat (.int c), .dat (.str "units")]) (gs_if (t2 _ _ q3) (gx_iteT (gs_ret (gx_call (gx_xc (gx_e (gx_var rfl)) (gx_xn _)) rfl rfl List.nodup_nil e2 rfl)))) rfl))) rfl
  | c => exact run_rt (e0 := [.dat (.int c), .dat (.str "chars")]) rfl (gs_seq (gs_if (t1 _ _ q4) (gx_iteF (gs_nil _))) (gs_nx (gs_seq (gs_if (t2 _ _ q5) (gx_iteF (gs_nil _))) (gs_nx (gs_ret (gx_lst (gx_ac (gx_var rfl) (gx_an _)) rfl)))))) rfl
theorem v_is_kind (k : Kd) : f_is_kind [.str k.s] = .ok (.bl true) [] := by cases k <;> rfl
theorem v_check_kind (k : Kd) : f_check_kind [.str k.s] = .ok .non [] := by
  unfold f_check_kind m_check_kind
  simp only [runF, startE, iosE, sSeq, sRet, sIf, sExp, sNil, sSet, sSetO, thenS, sPut, sApp, sAsg, sFor, sBrk, gNm, gTp, gCn, gNl, Rx.bind, liftO, mC, mVar, mFrz, xVar, xE, aNil, aCons, xsNil, xsCons, mLst, mTup, mBin, mUn, mTst, tNt, tAn, tOrr, vAn, vOr, vNt, asB, mIf, mBlt, mChn, mSl, oNo, oSo, asI, deref, derefs, slotV, putSl, mCall, callZ, argsOf, ioS, backIo, mMeth, mMeth0, mFld, mProp, Rx.nox, mIxO, allD, mMake, madeZ, sFldP, putN, mIsi, gIsi, tyS, isObj', iSeq, iEnm, iObj, mAddO, tyMo, tyM, tysS, mCmpO, gAdd, Pu.gSub, gDiv, gMod, gInt, gLt, gLen, gSum, gMax2, gMin2, gLstOf, gTupOf, gSl, gNeg, gAll, itemsOf, List.getElem?_cons_zero, List.getElem?_cons_succ, List.getElem?_nil, List.set_cons_zero, List.set_cons_succ, List.length_cons, List.length_nil, Option.map_some, Option.map_none, Option.bind_some, List.replicate, List.lookup, List.nodup_nil, List.nodup_cons, List.not_mem_nil, List.mem_cons, if_true, if_false, Bool.not_true, Bool.not_false, Bool.false_eq_true, not_true, not_false_iff, and_true, true_and, reduceIte, Nat.reduceLT, Nat.reduceLeDiff, Nat.reduceAdd, beq_self_eq_true, Nat.reduceBEq, Nat.reduceEqDiff, reduceCtorEq, v_is_kind]
theorem v_items (k : Kd) {c : Int} (h : Gc c) : f_items [.int c, .str k.s] = .ok (.lst ((its k c).map D.int)) [] := by
  have e1 := v_check_char h
  have e2 := v_check_kind k
  have e3 := v_char_items k c
  unfold f_items m_items
  apply run_rt (e0 := [.dat (.int c), .dat (.str k.s)]) rfl
  · repeat' (first
      | with_reducible assumption
      | (with_reducible exact ge_set0)
      | (with_reducible apply ge_set1)
      | (with_reducible apply gg_nm)
      | (with_reducible exact gg_nl _)
      | (with_reducible apply gg_cn)
      | (with_reducible apply gg_tp)
      | (with_reducible exact ga_nil _)
      | (with_reducible apply ga_inl)
      | (with_reducible apply ga_inr)
      | (with_reducible exact gd_nil _)
      | (with_reducible apply gd_cons)
      | (with_reducible exact gm_nil _)
      | (with_reducible apply gm_cons)
      | (with_reducible exact gm_setN _)
      | (with_reducible apply gm_setF)
      | (with_reducible apply gm_setT)
      | (with_reducible apply gs_seq)
      | (with_reducible apply gs_nx)
      | (with_reducible exact gs_rt)
      | (with_reducible exact gs_er)
      | (with_reducible exact gs_bk)
      | (with_reducible exact gs_ct)
      | (with_reducible apply gx_iteT)
      | (with_reducible apply gx_iteF)
      | (with_reducible apply gx_iteNT)
      | (with_reducible apply gx_iteNF)
      | (with_reducible apply gs_if)
      | (with_reducible exact gs_nil _)
      | (with_reducible apply gs_ret)
      | (with_reducible apply gs_exp)
      | (with_reducible apply gs_set)
      | (with_reducible apply gs_setO)
      | (with_reducible apply gs_setM)
      | (with_reducible apply gs_asg)
      | (with_reducible apply gs_par)
      | (with_reducible apply gs_app)
      | (with_reducible apply gs_put)
      | (with_reducible apply gs_raise)
      | (with_reducible apply gs_for)
      | (with_reducible apply gs_seqI)
      | (with_reducible apply gs_lc)
      | (with_reducible exact gx_c _ _)
      | (with_reducible apply gx_var)
      | (with_reducible apply gx_e)
      | (with_reducible exact gx_xn _)
      | (with_reducible exact gx_an _)
      | (with_reducible exact gx_on _)
      | (with_reducible apply gx_xc)
      | (with_reducible apply gx_ac)
      | (with_reducible apply gx_lst)
      | (with_reducible apply gx_tup)
      | (with_reducible apply gx_bin)
      | (with_reducible apply gx_un)
      | (with_reducible apply gx_blt)
      | (with_reducible apply gx_fld)
      | (with_reducible apply gx_isi)
      | (with_reducible apply gx_os)
      | (with_reducible apply gx_sl)
      | (with_reducible apply gx_call)
      | (with_reducible apply gx_meth)
      | (with_reducible apply gx_meth0)
      | (with_reducible apply gx_prop)
      | (with_reducible apply gx_ixO)
      | (with_reducible apply gx_make)
      | (with_reducible apply gx_methK)
      | (with_reducible apply gx_methD)
      | (with_reducible apply gx_callK)
      | (with_reducible apply gx_callD)
      | (with_reducible apply gx_tst)
      | (with_reducible apply gx_nt)
      | (with_reducible apply gx_an1)
      | (with_reducible apply gx_or1)
      | (with_reducible apply gx_van)
      | (with_reducible apply gx_vor)
      | (with_reducible apply gx_vnt)
      | (with_reducible apply gx_if)
      | (with_reducible apply gx_idx)
      | (with_reducible apply gs_enB)
      | (with_reducible apply gs_zpB)
      | assumption
      | exact List.nodup_nil
      | exact gn_one _
      | exact ⟨rfl, rfl⟩
      | rfl)
  · rfl
end Tc

/-! # K4 -/
namespace Tc
open PySem Pu
/-! # order -/
theorem lexp : ∀ (p x y : List Int), HT.lexLt (p ++ x) (p ++ y) = HT.lexLt x y
  | [], x, y => rfl
  | a :: p, x, y => by
    rw [List.cons_append, List.cons_append, HT.lexLt_cons, if_pos rfl]
    exact lexp p x y
theorem bys_ne (c : Int) : bys c ≠ [] := by
  unfold bys
  repeat' split
  all_goals exact List.cons_ne_nil _ _
theorem lex_by {c d : Int} (hc : Gc c) (hd : Gc d) (n : c ≠ d) (x y : List Int) : HT.lexLt (bys c ++ x) (bys d ++ y) = decide (c < d) := by
  unfold Gc at hc hd
  unfold bys
  by_cases c1 : c < 128 <;> by_cases c2 : c < 2048 <;> by_cases c3 : c < 65536 <;> (try omega) <;> by_cases d1 : d < 128 <;> by_cases d2 : d < 2048 <;> by_cases d3 : d < 65536 <;> (try omega) <;>
    simp only [c1, c2, c3, d1, d2, d3, if_true, if_false, List.cons_append, List.nil_append, HT.lexLt_cons] <;> (repeat' split) <;>
    first | (exfalso; omega) | (exact decide_eq_decide.mpr (by omega))
theorem lex_bytes : ∀ (a b : List Int), (∀ c ∈ a, Gc c) → (∀ c ∈ b, Gc c) → HT.lexLt (a.flatMap bys) (b.flatMap bys) = HT.lexLt a b
  | [], [], _, _ => rfl
  | [], d :: b, _, _ => by
    rw [List.flatMap_cons, List.flatMap_nil]
    cases h : bys d with
    | nil => exact absurd h (bys_ne d)
    | cons z l => rfl
  | c :: a, [], _, _ => by
    rw [List.flatMap_cons, List.flatMap_nil]
    cases h : bys c with
    | nil => exact absurd h (bys_ne c)
    | cons z l => rfl
  | c :: a, d :: b, ha, hb => by
    rw [List.flatMap_cons, List.flatMap_cons, HT.lexLt_cons]
    by_cases e : c = d
    · subst e
      rw [lexp, if_pos rfl]
      exact lex_bytes a b (fun z m => ha z (List.mem_cons_of_mem _ m)) (fun z m => hb z (List.mem_cons_of_mem _ m))
    · rw [lex_by (ha c List.mem_cons_self) (hb d List.mem_cons_self) e, if_neg e]
theorem lex_asy : ∀ (a b : List Int), HT.lexLt a b = true → HT.lexLt b a = false
  | [], [], h => by cases h
  | [], _ :: _, _ => rfl
  | _ :: _, [], h => by cases h
  | x :: a, y :: b, h => by
    rw [HT.lexLt_cons] at h ⊢
    by_cases e : x = y
    · rw [if_pos e] at h
      rw [if_pos e.symm]
      exact lex_asy a b h
    · rw [if_neg e] at h
      rw [if_neg fun z => e z.symm]
      have := of_decide_eq_true h
      exact decide_eq_false (by omega)
/-- -1, 0 or 1 -/
def sg (a b : List Int) : Int := (if HT.lexLt b a = true then 1 else 0) - (if HT.lexLt a b = true then 1 else 0)
theorem sg3 (a b : List Int) : sg a b = -1 ∨ sg a b = 0 ∨ sg a b = 1 := by
  unfold sg
  split <;> split <;> simp
def fl (k : Kd) (a : List Int) : List Int := a.flatMap (its k)
theorem fl_b {a b : List Int} (ha : Good a) (hb : Good b) : sg (fl .b a) (fl .b b) = sg a b := by
  unfold sg fl
  rw [show its .b = bys from rfl, lex_bytes a b ha hb, lex_bytes b a hb ha]
theorem fl_c (a : List Int) : fl .c a = a := by
  unfold fl
  induction a with
  | nil => rfl
  | cons c a ih =>
    rw [List.flatMap_cons, ih]
    rfl
theorem its_len (k : Kd) (c : Int) : (its k c).length ≤ 4 := by
  cases k with
  | b =>
    show (bys c).length ≤ 4
    unfold bys
    repeat' split
    all_goals simp
  | u =>
    show (uns c).length ≤ 4
    unfold uns
    split
    all_goals simp
  | c => simp [its]
theorem fl_len (k : Kd) : ∀ a : List Int, (fl k a).length ≤ 4 * a.length
  | [] => by simp [fl]
  | c :: a => by
    have := fl_len k a
    have h := its_len k c
    unfold fl at this ⊢
    rw [List.flatMap_cons, List.length_append, List.length_cons]
    omega
/-! ## < of lists and tuples -/
theorem alike_ints : ∀ a b : List Int, PySem.W.alikeAll (a.map PyData.int) (b.map PyData.int) = true
  | [], [] => by simp [PySem.W.alikeAll]
  | [], _ :: _ => by simp [PySem.W.alikeAll]
  | _ :: _, [] => by simp [PySem.W.alikeAll]
  | x :: a, y :: b => by
    have := alike_ints a b
    simp [PySem.W.alikeAll, PySem.W.alike, this]
theorem lex_toks : ∀ a b : List Int, PyProof.Rows.lexLt PyProof.Rows.itemOrd (PySem.W.keyToksAll (a.map PyData.int)) (PySem.W.keyToksAll (b.map PyData.int)) = HT.lexLt a b
  | [], [] => by simp [PySem.W.keyToksAll]; rfl
  | [], y :: b => by rw [List.map_cons, List.map_nil, PySem.W.toks_all_cons]; simp [PySem.W.keyToksAll]; rfl
  | x :: a, [] => by rw [List.map_cons, List.map_nil, PySem.W.toks_all_cons]; simp [PySem.W.keyToksAll]; rfl
  | x :: a, y :: b => by
    rw [List.map_cons, List.map_cons, HT.lexLt_cons]
    have al : PySem.W.alike (.int x) (.int y) = true := by simp [PySem.W.alike]
    by_cases e : x = y
    · rw [if_pos e, PySem.W.dataLt_all_yes al (by simp [PyData.eqv, e])]
      exact lex_toks a b
    · rw [if_neg e, PySem.W.dataLt_all_no al (by simp [PyData.eqv, e]), PySem.W.dataLt_int]
theorem lt_l (a b : List Int) : gLtD false (.lst (a.map D.int)) (.lst (b.map D.int)) = some (.bl (HT.lexLt a b)) := by
  have d1 := depA_ints a
  unfold gLtD
  simp only [toPy, pyA_ints, Option.map_some]
  rw [if_pos ⟨by simp [PySem.W.alike, alike_ints], rfl, by simp [PyData.depth, d1]⟩, if_neg Bool.false_ne_true, PySem.W.dataLt_list, lex_toks]
theorem gt_l (a b : List Int) : gLtD true (.lst (a.map D.int)) (.lst (b.map D.int)) = some (.bl (HT.lexLt b a)) := by
  have d1 := depA_ints a
  unfold gLtD
  simp only [toPy, pyA_ints, Option.map_some]
  rw [if_pos ⟨by simp [PySem.W.alike, alike_ints], rfl, by simp [PyData.depth, d1]⟩, if_pos trivial, PySem.W.dataLt_list, lex_toks]
theorem lt_t (a b : List Int) : gLtD false (.tup (a.map D.int)) (.tup (b.map D.int)) = some (.bl (HT.lexLt a b)) := by
  have d1 := depA_ints a
  unfold gLtD
  simp only [toPy, pyA_ints, Option.map_some]
  rw [if_pos ⟨by simp [PySem.W.alike, alike_ints], rfl, by simp [PyData.depth, d1]⟩, if_neg Bool.false_ne_true, PySem.W.dataLt_tuple, lex_toks]
theorem gt_t (a b : List Int) : gLtD true (.tup (a.map D.int)) (.tup (b.map D.int)) = some (.bl (HT.lexLt b a)) := by
  have d1 := depA_ints a
  unfold gLtD
  simp only [toPy, pyA_ints, Option.map_some]
  rw [if_pos ⟨by simp [PySem.W.alike, alike_ints], rfl, by simp [PyData.depth, d1]⟩, if_pos trivial, PySem.W.dataLt_tuple, lex_toks]
theorem v_l_sign (a b : List Int) : f_l_sign [.lst (a.map D.int), .lst (b.map D.int)] = .ok (.int (sg a b)) [] := by
  have h1 := gt_l a b
  have h2 := lt_l a b
  have i1 : ∀ b : Bool, gToI [.bl b] = some (.int (if b = true then 1 else 0)) := fun b => by cases b <;> rfl
  have gs : gSub (.int (if HT.lexLt b a = true then 1 else 0)) (.int (if HT.lexLt a b = true then 1 else 0)) = some (.int (sg a b)) := rfl
  unfold f_l_sign m_l_sign
  exact run_rt (e0 := [.dat (.lst (a.map D.int)), .dat (.lst (b.map D.int))]) rfl (gs_ret (gx_bin (gx_e (gx_blt (gx_xc (gx_e (gx_bin (gx_xvd rfl) (gx_xvd rfl) rfl rfl h1)) (gx_xn _)) rfl (i1 _))) (gx_e (gx_blt (gx_xc (gx_e (gx_bin (gx_xvd rfl) (gx_xvd rfl) rfl rfl h2)) (gx_xn _)) rfl (i1 _))) rfl rfl gs)) rfl
end Tc

/-! # K5 -/
namespace Tc
open PySem Pu
def notT : D → Bool
  | .non => true
  | .bl _ => true
  | .int _ => true
  | .str _ => true
  | .lst _ => true
  | .tup _ => true
  | .tl _ _ => true
  | .dct _ => true
  | _ => false
abbrev isT (d : D) : Option Bool := gIsi [("NoneType", false), ("bool", false), ("int", false), ("str", false), ("list", false), ("tuple", false), ("dict", false)] [(0, true)] d
theorem isT_no {d : D} (h : notT d = true) : isT d = some false := by
  unfold notT at h
  split at h <;> first | rfl | cases h
theorem lp_in (T x1 x2 : Sl) : ∀ (cs : List Int) (acc : List D), acc.length + cs.length < 1000000 → lcL (gNm 3) tYs (mVar 3) [3] (cs.map D.int) acc [T, x1, x2, .no] = .ok (acc ++ cs.map D.int) [T, x1, x2, .no]
  | [], acc, _ => by simp [lcL]
  | c :: cs, acc, h => by
    simp only [List.length_cons] at h
    have ih := lp_in T x1 x2 cs (acc ++ [.int c]) (by simp only [List.length_append, List.length_cons, List.length_nil]; omega)
    have z : acc.length < sizeLine := by rw [szl]; omega
    rw [List.map_cons, lcL, show gNm 3 (.int c) [T, x1, x2, .no] = some [T, x1, x2, .dat (.int c)] from rfl]
    simp only [tYs, show mVar 3 [T, x1, x2, .dat (.int c)] = .ok (.int c) [T, x1, x2, .dat (.int c)] from rfl, if_pos z, show wipeE [T, x1, x2, .dat (.int c)] [3] = [T, x1, x2, .no] from rfl]
    rw [ih]
    simp
theorem v_check_text_x {d : D} (h : notT d = true) : f_check_text [d] = .er 2 [(1, d)] [] := by
  have e3 := isT_no h
  unfold isT at e3
  unfold f_check_text m_check_text
  refine run_er (e0 := [.dat d]) (e1 := [.dat d]) rfl ?_ rfl
  refine gs_if (b := true) (env1 := [.dat d]) ?_ (gx_iteT ?_)
  · exact gx_nt (b := false) (gx_tst (gx_isi (gx_xvd rfl) rfl e3))
  · exact gs_raise (gx_ac (gx_var rfl) (gx_an _)) rfl rfl
theorem try_rt {m : Ms} {i : Nat} {hs : List Hm} {env e : Env'} {d : D} (h : m env = .rt d e) : sTry m i hs env = .rt d e := by
  unfold sTry
  rw [h]
theorem try_er {m : Ms} {i : Nat} {hs : List Hm} {env e1 : Env'} {c : Nat} {fs : List (Nat × D)} {o : Out} (h : m env = .er c fs e1) (hi : i < e1.length) (hp : pickH i c fs e1 hs = o) : sTry m i hs env = o := by
  unfold sTry
  rw [h]
  exact (if_pos hi).trans hp
def told (cs : List Int) : D := .lst [.str "told", .lst (cs.map D.int)]
def got (s : Str) (d : D) : D := .lst [.str s, d]
theorem v_Text_lt (a b : List Int) : f_Text_lt [txt a, txt b] = .ok (.bl (HT.lexLt a b)) [] := by
  have g := lt_t a b
  have i : isT (txt b) = some true := rfl
  unfold f_Text_lt m_Text_lt
  exact run_rt (e0 := [.dat (txt a), .dat (txt b)]) rfl (gs_seq (gs_if (b := false) (env1 := [.dat (txt a), .dat (txt b)]) (gx_nt (b := true) (gx_tst (gx_isi (gx_xvd rfl) rfl i))) (gx_iteF (gs_nil _))) (gs_nx (gs_ret (gx_bin (gx_e (gx_fld (gx_xvd rfl) rfl rfl)) (gx_e (gx_fld (gx_xvd rfl) rfl rfl)) rfl rfl g)))) rfl
theorem v_Text_gt (a b : List Int) : f_Text_gt [txt a, txt b] = .ok (.bl (HT.lexLt b a)) [] := by
  have g := gt_t a b
  have i : isT (txt b) = some true := rfl
  unfold f_Text_gt m_Text_gt
  exact run_rt (e0 := [.dat (txt a), .dat (txt b)]) rfl (gs_seq (gs_if (b := false) (env1 := [.dat (txt a), .dat (txt b)]) (gx_nt (b := true) (gx_tst (gx_isi (gx_xvd rfl) rfl i))) (gx_iteF (gs_nil _))) (gs_nx (gs_ret (gx_bin (gx_e (gx_fld (gx_xvd rfl) rfl rfl)) (gx_e (gx_fld (gx_xvd rfl) rfl rfl)) rfl rfl g)))) rfl
abbrev tIt : Env' → Rx (List D) := (iSeq (mCall f_char_items [false, false] (xsCons (xE (mVar 2)) (xsCons (xE (mVar 1)) xsNil))))
theorem lp_ti (T : Sl) (k : Kd) : ∀ (cs : List Int) (acc : List Int), acc.length + 4 * cs.length < 1000000 → lcL2 (gNm 2) tYs tIt (gNm 3) tYs (mVar 3) [2, 3] [3] (cs.map D.int) (acc.map D.int) [T, .dat (.str k.s), .no, .no] = .ok ((acc ++ fl k cs).map D.int) [T, .dat (.str k.s), .no, .no]
  | [], acc, _ => by simp [lcL2, fl]
  | c :: cs, acc, h => by
    simp only [List.length_cons] at h
    have hl := its_len k c
    have ih := lp_ti T k cs (acc ++ its k c) (by rw [List.length_append]; omega)
    have e1 := v_char_items k c
    have m1 : tIt [T, .dat (.str k.s), .dat (.int c), .no] = .ok ((its k c).map D.int) [T, .dat (.str k.s), .dat (.int c), .no] := gs_seqI (gx_call (gx_xc (gx_e (gx_var rfl)) (gx_xc (gx_e (gx_var rfl)) (gx_xn _))) rfl rfl List.nodup_nil e1 rfl) rfl
    have i1 := lp_in T (.dat (.str k.s)) (.dat (.int c)) (its k c) (acc.map D.int) (by rw [List.length_map]; omega)
    rw [List.map_cons, lcL2, show gNm 2 (.int c) [T, .dat (.str k.s), .no, .no] = some [T, .dat (.str k.s), .dat (.int c), .no] from rfl]
    simp only [tYs, m1, show wipeE [T, .dat (.str k.s), .dat (.int c), .no] [3] = [T, .dat (.str k.s), .dat (.int c), .no] from rfl, i1, show wipeE [T, .dat (.str k.s), .dat (.int c), .no] [2, 3] = [T, .dat (.str k.s), .no, .no] from rfl]
    rw [← List.map_append, ih, List.append_assoc]
    rfl
theorem v_text_items (k : Kd) {a : List Int} (h : a.length ≤ 1000) : f_text_items [txt a, .str k.s] = .ok (.lst ((fl k a).map D.int)) [] := by
  have e1 := v_Text_chars a
  have e2 := lp_ti (.dat (txt a)) k a [] (by simp only [List.length_nil]; omega)
  simp only [List.map_nil, List.nil_append] at e2
  have it : (iSeq (mMeth0 0 f_Text_chars [false] (xE (mVar 0)))) [.dat (txt a), .dat (.str k.s), .no, .no] = .ok (a.map D.int) [.dat (txt a), .dat (.str k.s), .no, .no] := gs_seqI (gx_meth0 (gx_e (gx_var rfl)) rfl rfl rfl List.nodup_nil e1 rfl) rfl
  have lc : (mLc2 (iSeq (mMeth0 0 f_Text_chars [false] (xE (mVar 0)))) (gNm 2) tYs (iSeq (mCall f_char_items [false, false] (xsCons (xE (mVar 2)) (xsCons (xE (mVar 1)) xsNil)))) (gNm 3) tYs (mVar 3) (List.map (fun x => x.2) ([("char", 2), ("item", 3)] : List (PySem.Str × Nat))) [3]) [.dat (txt a), .dat (.str k.s), .no, .no] = .ok (.lst ((fl k a).map D.int)) [.dat (txt a), .dat (.str k.s), .no, .no] := by
    unfold mLc2
    rw [it]
    simp only [Rx.bind]
    rw [show datAt [.dat (txt a), .dat (.str k.s), .no, .no] (List.map (fun x => x.2) ([("char", 2), ("item", 3)] : List (PySem.Str × Nat))) = true from rfl, if_pos rfl]
    show (lcL2 (gNm 2) tYs tIt (gNm 3) tYs (mVar 3) [2, 3] [3] (a.map D.int) [] [.dat (txt a), .dat (.str k.s), .no, .no]).bind _ = _
    rw [e2]
    rfl
  unfold f_text_items m_text_items
  exact run_rt (e0 := [.dat (txt a), .dat (.str k.s), .no, .no]) rfl (gs_ret lc) rfl
theorem v_compare (k : Kd) {a b : List Int} (la : a.length ≤ 1000) (lb : b.length ≤ 1000) : f_compare [txt a, txt b, .str k.s] = .ok (.int (sg (fl k a) (fl k b))) [] := by
  have c1 := v_check_text a
  have c2 := v_check_text b
  have c3 := v_check_kind k
  have t1 := v_text_items k la
  have t2 := v_text_items k lb
  have g1 := lt_l (fl k a) (fl k b)
  have g2 := gt_l (fl k a) (fl k b)
  have ng : gNeg (.int 1) = some (.int (-1)) := rfl
  let e0 : Env' := [.dat (txt a), .dat (txt b), .dat (.str k.s), .no, .no]
  let e1 : Env' := [.dat (txt a), .dat (txt b), .dat (.str k.s), .dat (.lst ((fl k a).map D.int)), .dat (.lst ((fl k b).map D.int))]
  have s0 : (sExp (mCall f_check_text [false] (xsCons (xE (mVar 0)) xsNil))) e0 = .nx e0 := gs_exp (gx_call (gx_xc (gx_e (gx_var rfl)) (gx_xn _)) rfl rfl List.nodup_nil c1 rfl)
  have s1 : (sExp (mCall f_check_text [false] (xsCons (xE (mVar 1)) xsNil))) e0 = .nx e0 := gs_exp (gx_call (gx_xc (gx_e (gx_var rfl)) (gx_xn _)) rfl rfl List.nodup_nil c2 rfl)
  have s2 : (sExp (mCall f_check_kind [false] (xsCons (xE (mVar 2)) xsNil))) e0 = .nx e0 := gs_exp (gx_call (gx_xc (gx_e (gx_var rfl)) (gx_xn _)) rfl rfl List.nodup_nil c3 rfl)
  have s3 : (sSet 3 (mCall f_text_items [false, false] (xsCons (xE (mVar 0)) (xsCons (xE (mVar 2)) xsNil)))) e0 = .nx [.dat (txt a), .dat (txt b), .dat (.str k.s), .dat (.lst ((fl k a).map D.int)), .no] := gs_set (gx_call (gx_xc (gx_e (gx_var rfl)) (gx_xc (gx_e (gx_var rfl)) (gx_xn _))) rfl rfl List.nodup_nil t1 rfl) rfl rfl
  have s4 : (sSet 4 (mCall f_text_items [false, false] (xsCons (xE (mVar 1)) (xsCons (xE (mVar 2)) xsNil)))) [.dat (txt a), .dat (txt b), .dat (.str k.s), .dat (.lst ((fl k a).map D.int)), .no] = .nx e1 := gs_set (gx_call (gx_xc (gx_e (gx_var rfl)) (gx_xc (gx_e (gx_var rfl)) (gx_xn _))) rfl rfl List.nodup_nil t2 rfl) rfl rfl
  have t5 : (mTst (mBin (gLtD false) (xVar 3) (xVar 4))) e1 = .ok (HT.lexLt (fl k a) (fl k b)) e1 := gx_tst (gx_bin (gx_xvd rfl) (gx_xvd rfl) rfl rfl g1)
  have t6 : (mTst (mBin (gLtD true) (xVar 3) (xVar 4))) e1 = .ok (HT.lexLt (fl k b) (fl k a)) e1 := gx_tst (gx_bin (gx_xvd rfl) (gx_xvd rfl) rfl rfl g2)
  have key : m_compare e0 = .rt (.int (sg (fl k a) (fl k b))) e1 := by
    unfold m_compare
    refine gs_seq s0 (gs_nx (gs_seq s1 (gs_nx (gs_seq s2 (gs_nx (gs_seq s3 (gs_nx (gs_seq s4 (gs_nx ?_)))))))))
    unfold sg
    cases h1 : HT.lexLt (fl k a) (fl k b) with
    | true =>
      rw [h1] at t5
      rw [lex_asy _ _ h1, if_neg Bool.false_ne_true, if_pos rfl]
      exact gs_seq (o := .rt (.int (-1)) e1) (gs_if t5 (gx_iteT (gs_ret (gx_un (gx_e (gx_c _ _)) rfl ng)))) rfl
    | false =>
      rw [h1] at t5
      refine gs_seq (gs_if t5 (gx_iteF (gs_nil _))) (gs_nx ?_)
      cases h2 : HT.lexLt (fl k b) (fl k a) with
      | true =>
        rw [h2] at t6
        exact gs_seq (o := .rt (.int 1) e1) (gs_if t6 (gx_iteT (gs_ret (gx_c _ _)))) rfl
      | false =>
        rw [h2] at t6
        exact gs_seq (gs_if t6 (gx_iteF (gs_nil _))) (gs_nx (gs_ret (gx_c _ _)))
  unfold f_compare
  exact run_rt (e0 := e0) (e1 := e1) rfl key rfl
theorem v_compare_x1 {d : D} (h : notT d = true) (y z : D) : f_compare [d, y, z] = .er 2 [(1, d)] [] := by
  have e1 := v_check_text_x h
  unfold f_compare m_compare
  exact run_er (e0 := [.dat d, .dat y, .dat z, .no, .no]) (e1 := [.dat d, .dat y, .dat z, .no, .no]) rfl (gs_seq (gs_expX (gx_call (gx_xc (gx_e (gx_var rfl)) (gx_xn _)) rfl rfl List.nodup_nil e1 rfl)) rfl) rfl
theorem v_compare_x2 {d : D} (h : notT d = true) (a : List Int) (z : D) : f_compare [txt a, d, z] = .er 2 [(1, d)] [] := by
  have c1 := v_check_text a
  have e1 := v_check_text_x h
  unfold f_compare m_compare
  exact run_er (e0 := [.dat (txt a), .dat d, .dat z, .no, .no]) (e1 := [.dat (txt a), .dat d, .dat z, .no, .no]) rfl (gs_seq (gs_exp (gx_call (gx_xc (gx_e (gx_var rfl)) (gx_xn _)) rfl rfl List.nodup_nil c1 rfl)) (gs_nx (gs_seq (gs_expX (gx_call (gx_xc (gx_e (gx_var rfl)) (gx_xn _)) rfl rfl List.nodup_nil e1 rfl)) rfl))) rfl
theorem v_check_kind_x {d : D} (h : f_is_kind [d] = .ok (.bl false) []) : f_check_kind [d] = .er 3 [(1, d)] [] := by
  unfold f_check_kind m_check_kind
  refine run_er (e0 := [.dat d]) (e1 := [.dat d]) rfl ?_ rfl
  exact gs_if (b := true) (env1 := [.dat d]) (gx_nt (b := false) (gx_tst (gx_call (gx_xc (gx_e (gx_var rfl)) (gx_xn _)) rfl rfl List.nodup_nil h rfl))) (gx_iteT (gs_raise (gx_ac (gx_var rfl) (gx_an _)) rfl rfl))
theorem v_compare_x3 {d : D} (h : f_is_kind [d] = .ok (.bl false) []) (a b : List Int) : f_compare [txt a, txt b, d] = .er 3 [(1, d)] [] := by
  have c1 := v_check_text a
  have c2 := v_check_text b
  have e1 := v_check_kind_x h
  unfold f_compare m_compare
  exact run_er (e0 := [.dat (txt a), .dat (txt b), .dat d, .no, .no]) (e1 := [.dat (txt a), .dat (txt b), .dat d, .no, .no]) rfl (gs_seq (gs_exp (gx_call (gx_xc (gx_e (gx_var rfl)) (gx_xn _)) rfl rfl List.nodup_nil c1 rfl)) (gs_nx (gs_seq (gs_exp (gx_call (gx_xc (gx_e (gx_var rfl)) (gx_xn _)) rfl rfl List.nodup_nil c2 rfl)) (gs_nx (gs_seq (gs_expX (gx_call (gx_xc (gx_e (gx_var rfl)) (gx_xn _)) rfl rfl List.nodup_nil e1 rfl)) rfl))))) rfl
theorem caught_ok {x y z d : D} (h : f_compare [x, y, z] = .ok d []) : f_l_caught [x, y, z] = .ok (.lst [.str "told", d]) [] := by
  unfold f_l_caught m_l_caught
  exact run_rt (e0 := [.dat x, .dat y, .dat z, .no]) rfl (try_rt (gs_ret (gx_lst (gx_ac (gx_c _ _) (gx_ac (gx_call (gx_xc (gx_e (gx_var rfl)) (gx_xc (gx_e (gx_var rfl)) (gx_xc (gx_e (gx_var rfl)) (gx_xn _)))) rfl rfl List.nodup_nil h rfl) (gx_an _))) rfl))) rfl
theorem caught_t {x y z d : D} (h : f_compare [x, y, z] = .er 2 [(1, d)] []) : f_l_caught [x, y, z] = .ok (got "text" d) [] := by
  unfold f_l_caught m_l_caught
  exact run_rt (e0 := [.dat x, .dat y, .dat z, .no]) (e1 := [.dat x, .dat y, .dat z, .no]) rfl (try_er (gs_retX (gx_lstX (gx_acX2 (gx_c _ _) (gx_acX (gx_call (gx_xc (gx_e (gx_var rfl)) (gx_xc (gx_e (gx_var rfl)) (gx_xc (gx_e (gx_var rfl)) (gx_xn _)))) rfl rfl List.nodup_nil h rfl))))) (by show 3 < 4; decide) rfl) rfl
theorem caught_k {x y z d : D} (h : f_compare [x, y, z] = .er 3 [(1, d)] []) : f_l_caught [x, y, z] = .ok (got "kind" d) [] := by
  unfold f_l_caught m_l_caught
  exact run_rt (e0 := [.dat x, .dat y, .dat z, .no]) (e1 := [.dat x, .dat y, .dat z, .no]) rfl (try_er (gs_retX (gx_lstX (gx_acX2 (gx_c _ _) (gx_acX (gx_call (gx_xc (gx_e (gx_var rfl)) (gx_xc (gx_e (gx_var rfl)) (gx_xc (gx_e (gx_var rfl)) (gx_xn _)))) rfl rfl List.nodup_nil h rfl))))) (by show 3 < 4; decide) rfl) rfl
/-! # all items of a list -/
theorem gs_ext {i : Nat} {me : Mx} {env env1 e : Env'} {y y' : Sl} {l0 l d : List D} {x : XD} (h0 : slotV env i = some (y', .lst l0)) (h : me env = .ok x env1) (hx : deref env1 x = some (.lst d)) (h1 : slotV env1 i = some (y, .lst l)) (hl : l.length + d.length ≤ sizeLine) (he : env1.set i (putSl y (.lst (l ++ d))) = e) : sExt i me env = .nx e := by
  unfold sExt thenS
  rw [h0]
  dsimp only
  rw [h]
  dsimp only
  rw [h1, hx]
  dsimp only
  rw [if_pos hl, he]
theorem lp_all (k : Kd) (T : Sl) : ∀ (cs : List Int) (acc : List Int) (x3 : Sl), (∀ c ∈ cs, Gc c) → acc.length + 4 * cs.length < 1000000 → ∃ y3, forL (gNm 3) (sExt 2 (xE (mCall f_items [false, false] (xsCons (xE (mVar 3)) (xsCons (xE (mVar 1)) xsNil))))) (cs.map D.int) [T, .dat (.str k.s), .own (.lst (acc.map D.int)), x3] = .nx [T, .dat (.str k.s), .own (.lst ((acc ++ fl k cs).map D.int)), y3]
  | [], acc, x3, _, _ => ⟨x3, by simp [forL, fl]⟩
  | c :: cs, acc, x3, h, hl => by
    simp only [List.length_cons] at hl
    have h4 := its_len k c
    obtain ⟨y3, ih⟩ := lp_all k T cs (acc ++ its k c) (.dat (.int c)) (fun z m => h z (List.mem_cons_of_mem _ m)) (by rw [List.length_append]; omega)
    have e1 := v_items k (h c List.mem_cons_self)
    have z : (acc.map D.int).length + ((its k c).map D.int).length ≤ sizeLine := by rw [szl, List.length_map, List.length_map]; omega
    have st : (sExt 2 (xE (mCall f_items [false, false] (xsCons (xE (mVar 3)) (xsCons (xE (mVar 1)) xsNil))))) [T, .dat (.str k.s), .own (.lst (acc.map D.int)), .dat (.int c)] = .nx [T, .dat (.str k.s), .own (.lst ((acc ++ its k c).map D.int)), .dat (.int c)] := by
      rw [List.map_append]
      exact gs_ext rfl (gx_e (gx_call (gx_xc (gx_e (gx_var rfl)) (gx_xc (gx_e (gx_var rfl)) (gx_xn _))) rfl rfl List.nodup_nil e1 rfl)) rfl rfl z rfl
    refine ⟨y3, ?_⟩
    rw [List.map_cons, forL, show gNm 3 (.int c) [T, .dat (.str k.s), .own (.lst (acc.map D.int)), x3] = some [T, .dat (.str k.s), .own (.lst (acc.map D.int)), .dat (.int c)] from rfl]
    dsimp only
    rw [st]
    dsimp only
    rw [ih, List.append_assoc]
    rfl
theorem v_l_all (k : Kd) {a : List Int} (ga : Good a) (la : a.length ≤ 1000) : f_l_all [.lst (a.map D.int), .str k.s] = .ok (.lst ((fl k a).map D.int)) [] := by
  obtain ⟨y3, e⟩ := lp_all k (.dat (.lst (a.map D.int))) a [] .no ga (by simp only [List.length_nil]; omega)
  simp only [List.nil_append] at e
  have it : iSeq (mVar 0) [.dat (.lst (a.map D.int)), .dat (.str k.s), .own (.lst ([].map D.int)), .no] = .ok (a.map D.int) [.dat (.lst (a.map D.int)), .dat (.str k.s), .own (.lst ([].map D.int)), .no] := gs_seqI (gx_var rfl) rfl
  have s0 : (sSetO 2 (mLst aNil)) [.dat (.lst (a.map D.int)), .dat (.str k.s), .no, .no] = .nx [.dat (.lst (a.map D.int)), .dat (.str k.s), .own (.lst ([].map D.int)), .no] := by
    repeat' (first
        | with_reducible assumption
        | (with_reducible exact ge_set0)
        | (with_reducible apply ge_set1)
        | (with_reducible apply gg_nm)
        | (with_reducible exact gg_nl _)
        | (with_reducible apply gg_cn)
        | (with_reducible apply gg_tp)
        | (with_reducible exact ga_nil _)
        | (with_reducible apply ga_inl)
        | (with_reducible apply ga_inr)
        | (with_reducible exact gd_nil _)
        | (with_reducible apply gd_cons)
        | (with_reducible exact gm_nil _)
        | (with_reducible apply gm_cons)
        | (with_reducible exact gm_setN _)
        | (with_reducible apply gm_setF)
        | (with_reducible apply gm_setT)
        | (with_reducible apply gs_seq)
        | (with_reducible apply gs_nx)
        | (with_reducible exact gs_rt)
        | (with_reducible exact gs_er)
        | (with_reducible exact gs_bk)
        | (with_reducible exact gs_ct)
        | (with_reducible apply gx_iteT)
        | (with_reducible apply gx_iteF)
        | (with_reducible apply gx_iteNT)
        | (with_reducible apply gx_iteNF)
        | (with_reducible apply gs_if)
        | (with_reducible exact gs_nil _)
        | (with_reducible apply gs_ret)
        | (with_reducible apply gs_exp)
        | (with_reducible apply gs_set)
        | (with_reducible apply gs_setO)
        | (with_reducible apply gs_setM)
        | (with_reducible apply gs_asg)
        | (with_reducible apply gs_par)
        | (with_reducible apply gs_app)
        | (with_reducible apply gs_put)
        | (with_reducible apply gs_raise)
        | (with_reducible apply gs_for)
        | (with_reducible apply gs_seqI)
        | (with_reducible apply gs_lc)
        | (with_reducible exact gx_c _ _)
        | (with_reducible apply gx_var)
        | (with_reducible apply gx_e)
        | (with_reducible exact gx_xn _)
        | (with_reducible exact gx_an _)
        | (with_reducible exact gx_on _)
        | (with_reducible apply gx_xc)
        | (with_reducible apply gx_ac)
        | (with_reducible apply gx_lst)
        | (with_reducible apply gx_tup)
        | (with_reducible apply gx_bin)
        | (with_reducible apply gx_un)
        | (with_reducible apply gx_blt)
        | (with_reducible apply gx_fld)
        | (with_reducible apply gx_isi)
        | (with_reducible apply gx_os)
        | (with_reducible apply gx_sl)
        | (with_reducible apply gx_call)
        | (with_reducible apply gx_meth)
        | (with_reducible apply gx_meth0)
        | (with_reducible apply gx_prop)
        | (with_reducible apply gx_ixO)
        | (with_reducible apply gx_make)
        | (with_reducible apply gx_methK)
        | (with_reducible apply gx_methD)
        | (with_reducible apply gx_callK)
        | (with_reducible apply gx_callD)
        | (with_reducible apply gx_tst)
        | (with_reducible apply gx_nt)
        | (with_reducible apply gx_an1)
        | (with_reducible apply gx_or1)
        | (with_reducible apply gx_van)
        | (with_reducible apply gx_vor)
        | (with_reducible apply gx_vnt)
        | (with_reducible apply gx_if)
        | (with_reducible apply gx_idx)
        | (with_reducible apply gs_enB)
        | (with_reducible apply gs_zpB)
        | assumption
        | exact List.nodup_nil
        | exact gn_one _
        | exact ⟨rfl, rfl⟩
        | rfl)
  have s2 : (sRet (mFrz 2)) [.dat (.lst (a.map D.int)), .dat (.str k.s), .own (.lst ((fl k a).map D.int)), y3] = .rt (.lst ((fl k a).map D.int)) [.dat (.lst (a.map D.int)), .dat (.str k.s), .dat (.lst ((fl k a).map D.int)), y3] := by
    exact gs_ret rfl
  have key : m_l_all [.dat (.lst (a.map D.int)), .dat (.str k.s), .no, .no] = .rt (.lst ((fl k a).map D.int)) [.dat (.lst (a.map D.int)), .dat (.str k.s), .dat (.lst ((fl k a).map D.int)), y3] := by
    unfold m_l_all
    exact gs_seq s0 (gs_nx (gs_seq (gs_for it e) (gs_nx s2)))
  unfold f_l_all
  exact run_rt (e0 := [.dat (.lst (a.map D.int)), .dat (.str k.s), .no, .no]) rfl key rfl
end Tc

/-! # K6 -/
namespace Tc
open PySem Pu
/-! # a pair -/
def isS : Option D → Bool
  | some (.str _) => true
  | _ => false
theorem isS_of {z : Option D} (h : isS z = true) : ∃ s, z = some (.str s) := by
  unfold isS at h
  split at h
  · exact ⟨_, rfl⟩
  · cases h
theorem rep_n {n : Int} (h : n = -1 ∨ n = 0 ∨ n = 1) : ∃ s, gReprE [.lst [.str "told", .int n]] = some (.str s) := by
  rcases h with rfl | rfl | rfl <;> exact isS_of (by decide +kernel)
theorem rep_b (x y : Bool) : ∃ s, gReprE [.lst [.bl x, .bl y]] = some (.str s) := by
  cases x <;> cases y <;> exact isS_of (by decide +kernel)
theorem ev_cmpO {c : Nat} {ts : List String} {cs : List Nat} {φ : List D → Rz} {env : Env'} {me me2 : Me} {d e r : D} (h : me env = .ok d env) (h2 : me2 env = .ok e env) (h3 : isObj' c (some d) = true) (h4 : tyMo ts cs (some e) = true) (h5 : φ [d, e] = .ok r []) : mCmpO c ts cs φ [false, false] (xE me) (xE me2) env = .ok r env := by
  simp only [mCmpO, xE, h, h2, Rx.bind, deref, h3, h4, and_self, if_true, callZ, argsOf, Option.map_some, ioS, List.nodup_nil, h5, backIo, Rx.nox]
theorem forL_nx {tg : Mg} {body : Ms} {d : D} {ds : List D} {env e1 e2 : Env'} (h1 : tg d env = some e1) (h2 : body e1 = .nx e2) : forL tg body (d :: ds) env = forL tg body ds e2 := by
  rw [forL, h1]
  dsimp only
  rw [h2]
def PE (a b : List Int) (x4 x5 : Sl) : Env' := [.dat (.lst (a.map D.int)), .dat (.lst (b.map D.int)), .dat (txt a), .dat (txt b), x4, x5]
section
variable {a b : List Int} (ga : Good a) (gb : Good b) (la : a.length ≤ 1000) (lb : b.length ≤ 1000)
include ga gb la lb
abbrev pB : Ms := (sSeq (sSet 5 (mCall f_l_sign [false, false] (xsCons (xE (mCall f_l_all [false, false] (xsCons (xE (mVar 0)) (xsCons (xE (mVar 4)) xsNil)))) (xsCons (xE (mCall f_l_all [false, false] (xsCons (xE (mVar 1)) (xsCons (xE (mVar 4)) xsNil)))) xsNil)))) (sSeq (sIf (mTst (mBin gNeS (xE (mBlt gReprE (xsCons (xE (mCall f_l_caught [false, false, false] (xsCons (xE (mVar 2)) (xsCons (xE (mVar 3)) (xsCons (xE (mVar 4)) xsNil))))) xsNil))) (xE (mBlt gReprE (xsCons (xE (mLst (aCons (mC (.str "told")) (aCons (mVar 5) aNil)))) xsNil))))) (sRet (mC (.bl false))) sNil) (sIf (tAn (mTst (mBin gNe (xVar 4) (xE (mC (.str "units"))))) (mTst (mBin gNe (xVar 5) (xE (mCall f_l_sign [false, false] (xsCons (xE (mVar 0)) (xsCons (xE (mVar 1)) xsNil))))))) (sRet (mC (.bl false))) sNil)))
theorem p_turn (k : Kd) (x5 : Sl) : ∃ y5, pB (PE a b (.dat (.str k.s)) x5) = .nx (PE a b (.dat (.str k.s)) y5) := by
  have e1 := v_l_all k ga la
  have e2 := v_l_all k gb lb
  have e3 := v_l_sign (fl k a) (fl k b)
  have e4 := caught_ok (v_compare k la lb)
  obtain ⟨s, r⟩ := rep_n (sg3 (fl k a) (fl k b))
  have e5 := v_l_sign a b
  refine ⟨.dat (.int (sg (fl k a) (fl k b))), ?_⟩
  have s0 : (sSet 5 (mCall f_l_sign [false, false] (xsCons (xE (mCall f_l_all [false, false] (xsCons (xE (mVar 0)) (xsCons (xE (mVar 4)) xsNil)))) (xsCons (xE (mCall f_l_all [false, false] (xsCons (xE (mVar 1)) (xsCons (xE (mVar 4)) xsNil)))) xsNil)))) (PE a b (.dat (.str k.s)) x5) = .nx (PE a b (.dat (.str k.s)) (.dat (.int (sg (fl k a) (fl k b))))) := gs_set (gx_call (gx_xc (gx_e (gx_call (gx_xc (gx_e (gx_var rfl)) (gx_xc (gx_e (gx_var rfl)) (gx_xn _))) rfl rfl List.nodup_nil e1 rfl)) (gx_xc (gx_e (gx_call (gx_xc (gx_e (gx_var rfl)) (gx_xc (gx_e (gx_var rfl)) (gx_xn _))) rfl rfl List.nodup_nil e2 rfl)) (gx_xn _))) rfl rfl List.nodup_nil e3 rfl) rfl rfl
  have due : k = .u ∨ sg (fl k a) (fl k b) = sg a b := by
    cases k with
    | b => exact .inr (fl_b ga gb)
    | u => exact .inl rfl
    | c => rw [fl_c, fl_c]; exact .inr rfl
  generalize sg (fl k a) (fl k b) = n at e4 r s0 due ⊢
  generalize hE : PE a b (.dat (.str k.s)) (.dat (.int n)) = env at s0 ⊢
  have h0 : env[0]? = some (.dat (.lst (a.map D.int))) := by rw [← hE]; rfl
  have h1 : env[1]? = some (.dat (.lst (b.map D.int))) := by rw [← hE]; rfl
  have h2 : env[2]? = some (.dat (txt a)) := by rw [← hE]; rfl
  have h3 : env[3]? = some (.dat (txt b)) := by rw [← hE]; rfl
  have h4 : env[4]? = some (.dat (.str k.s)) := by rw [← hE]; rfl
  have h5 : env[5]? = some (.dat (.int n)) := by rw [← hE]; rfl
  have d4 : deref env (.inr 4) = some (.str k.s) := by simp only [deref, h4]
  have d5 : deref env (.inr 5) = some (.int n) := by simp only [deref, h5]
  have t1 : (mTst (mBin gNeS (xE (mBlt gReprE (xsCons (xE (mCall f_l_caught [false, false, false] (xsCons (xE (mVar 2)) (xsCons (xE (mVar 3)) (xsCons (xE (mVar 4)) xsNil))))) xsNil))) (xE (mBlt gReprE (xsCons (xE (mLst (aCons (mC (.str "told")) (aCons (mVar 5) aNil)))) xsNil))))) env = .ok false env := gx_tst (gx_bin (gx_e (gx_blt (gx_xc (gx_e (gx_call (gx_xc (gx_e (gx_var h2)) (gx_xc (gx_e (gx_var h3)) (gx_xc (gx_e (gx_var h4)) (gx_xn _)))) rfl rfl List.nodup_nil e4 rfl)) (gx_xn _)) rfl r)) (gx_e (gx_blt (gx_xc (gx_e (gx_lst (gx_ac (gx_c _ _) (gx_ac (gx_var h5) (gx_an _))) rfl)) (gx_xn _)) rfl r)) rfl rfl (neS_same s))
  have t2 : (tAn (mTst (mBin gNe (xVar 4) (xE (mC (.str "units"))))) (mTst (mBin gNe (xVar 5) (xE (mCall f_l_sign [false, false] (xsCons (xE (mVar 0)) (xsCons (xE (mVar 1)) xsNil))))))) env = .ok false env := by
    rcases due with rfl | rfl
    · have q : gNe (.str (Kd.s .u)) (.str "units") = some (.bl false) := okB_of (by decide +kernel)
      exact gx_an1 (gx_tst (gx_bin (gx_xvd h4) (gx_e (gx_c _ _)) d4 rfl q)) (gx_iteF rfl)
    · have n2 : gNe (.int (sg a b)) (.int (sg a b)) = some (.bl false) := by rw [gNe_int]; simp
      have t3 : (mTst (mBin gNe (xVar 5) (xE (mCall f_l_sign [false, false] (xsCons (xE (mVar 0)) (xsCons (xE (mVar 1)) xsNil)))))) env = .ok false env := gx_tst (gx_bin (gx_xvd h5) (gx_e (gx_call (gx_xc (gx_e (gx_var h0)) (gx_xc (gx_e (gx_var h1)) (gx_xn _))) rfl rfl List.nodup_nil e5 rfl)) d5 rfl n2)
      obtain ⟨z, q⟩ : ∃ z, gNe (.str k.s) (.str "units") = some (.bl z) := by
        cases k
        · exact ⟨true, okB_of (by decide +kernel)⟩
        · exact ⟨false, okB_of (by decide +kernel)⟩
        · exact ⟨true, okB_of (by decide +kernel)⟩
      refine gx_an1 (gx_tst (gx_bin (gx_xvd h4) (gx_e (gx_c _ _)) d4 rfl q)) ?_
      cases z with
      | true => exact gx_iteT t3
      | false => exact gx_iteF rfl
  exact gs_seq s0 (gs_nx (gs_seq (gs_if t1 (gx_iteF (gs_nil _))) (gs_nx (gs_if t2 (gx_iteF (gs_nil _))))))
theorem v_pair : f_l_pair_right [.lst (a.map D.int), .lst (b.map D.int)] = .ok (.bl true) [] := by
  have i1 := v_Text_init (.lst a) ga
  have i2 := v_Text_init (.tup a) ga
  have i3 := v_Text_init (.lst b) gb
  have gt : gTupOf [.lst (a.map D.int)] = some (.tup (a.map D.int)) := rfl
  have gl : gLen [.lst (a.map D.int)] = some (.int (a.length : Nat)) := by
    show some (D.int ((a.map D.int).length : Nat)) = _
    rw [List.length_map]
  have gm : gMod (.int (a.length : Nat)) (.int 2) = some (.int ((a.length : Int).fmod 2)) := rfl
  have q := gEq_int ((a.length : Int).fmod 2) 1
  let e0 : Env' := [.dat (.lst (a.map D.int)), .dat (.lst (b.map D.int)), .no, .no, .no, .no]
  have t0 : (mTst (mBin gEq (xE (mBin gMod (xE (mBlt gLen (xsCons (xVar 0) xsNil))) (xE (mC (.int 2))))) (xE (mC (.int 1))))) e0 = .ok ((a.length : Int).fmod 2 == 1) e0 := gx_tst (gx_bin (gx_e (gx_bin (gx_e (gx_blt (gx_xc (gx_xvd rfl) (gx_xn _)) rfl gl)) (gx_e (gx_c _ _)) rfl rfl gm)) (gx_e (gx_c _ _)) rfl rfl q)
  have m1 : (mIf (mTst (mBin gEq (xE (mBin gMod (xE (mBlt gLen (xsCons (xVar 0) xsNil))) (xE (mC (.int 2))))) (xE (mC (.int 1))))) (mMake 0 1 f_Text_init (xsCons (xE (mBlt gTupOf (xsCons (xVar 0) xsNil))) xsNil)) (mMake 0 1 f_Text_init (xsCons (xE (mVar 0)) xsNil))) e0 = .ok (txt a) e0 := by
    refine gx_if t0 ?_
    cases ((a.length : Int).fmod 2 == 1) with
    | true => exact gx_iteT (gx_make (gx_xc (gx_e (gx_blt (gx_xc (gx_xvd rfl) (gx_xn _)) rfl gt)) (gx_xn _)) rfl rfl i2 rfl)
    | false => exact gx_iteF (gx_make (gx_xc (gx_e (gx_var rfl)) (gx_xn _)) rfl rfl i1 rfl)
  have m2 : (mMake 0 1 f_Text_init (xsCons (xE (mVar 1)) xsNil)) e0 = .ok (txt b) e0 := gx_make (gx_xc (gx_e (gx_var rfl)) (gx_xn _)) rfl rfl i3 rfl
  have s0 : (sPar [2, 3] (dCons false (mIf (mTst (mBin gEq (xE (mBin gMod (xE (mBlt gLen (xsCons (xVar 0) xsNil))) (xE (mC (.int 2))))) (xE (mC (.int 1))))) (mMake 0 1 f_Text_init (xsCons (xE (mBlt gTupOf (xsCons (xVar 0) xsNil))) xsNil)) (mMake 0 1 f_Text_init (xsCons (xE (mVar 0)) xsNil))) (dCons false (mMake 0 1 f_Text_init (xsCons (xE (mVar 1)) xsNil)) dNil))) e0 = .nx (PE a b .no .no) := gs_par (gm_cons m1 (gm_cons m2 (gm_nil _))) rfl
  have l1 := v_Text_lt a b
  have l2 := v_Text_gt a b
  have l3 := lt_l a b
  have l4 := gt_l a b
  obtain ⟨s, r⟩ := rep_b (HT.lexLt a b) (HT.lexLt b a)
  have c1 : ∀ env : Env', env[2]? = some (.dat (txt a)) → env[3]? = some (.dat (txt b)) → mCmpO 0 ["NoneType", "bool", "int", "str", "list", "tuple", "dict"] [0] f_Text_lt [false, false] (xE (mVar 2)) (xE (mVar 3)) env = .ok (.bl (HT.lexLt a b)) env := fun env h2 h3 => ev_cmpO (gx_var h2) (gx_var h3) rfl rfl l1
  have c2 : ∀ env : Env', env[2]? = some (.dat (txt a)) → env[3]? = some (.dat (txt b)) → mCmpO 0 ["NoneType", "bool", "int", "str", "list", "tuple", "dict"] [0] f_Text_gt [false, false] (xE (mVar 2)) (xE (mVar 3)) env = .ok (.bl (HT.lexLt b a)) env := fun env h2 h3 => ev_cmpO (gx_var h2) (gx_var h3) rfl rfl l2
  have t1 : (mTst (mBin gNeS (xE (mBlt gReprE (xsCons (xE (mLst (aCons (mCmpO 0 ["NoneType", "bool", "int", "str", "list", "tuple", "dict"] [0] f_Text_lt [false, false] (xE (mVar 2)) (xE (mVar 3))) (aCons (mCmpO 0 ["NoneType", "bool", "int", "str", "list", "tuple", "dict"] [0] f_Text_gt [false, false] (xE (mVar 2)) (xE (mVar 3))) aNil)))) xsNil))) (xE (mBlt gReprE (xsCons (xE (mLst (aCons (mBin (gLtD false) (xVar 0) (xVar 1)) (aCons (mBin (gLtD true) (xVar 0) (xVar 1)) aNil)))) xsNil))))) (PE a b .no .no) = .ok false (PE a b .no .no) := gx_tst (gx_bin (gx_e (gx_blt (gx_xc (gx_e (gx_lst (gx_ac (c1 _ rfl rfl) (gx_ac (c2 _ rfl rfl) (gx_an _))) rfl)) (gx_xn _)) rfl r)) (gx_e (gx_blt (gx_xc (gx_e (gx_lst (gx_ac (gx_bin (gx_xvd rfl) (gx_xvd rfl) rfl rfl l3) (gx_ac (gx_bin (gx_xvd rfl) (gx_xvd rfl) rfl rfl l4) (gx_an _))) rfl)) (gx_xn _)) rfl r)) rfl rfl (neS_same s))
  obtain ⟨u1, p1⟩ := p_turn ga gb la lb .b .no
  obtain ⟨u2, p2⟩ := p_turn ga gb la lb .u u1
  obtain ⟨u3, p3⟩ := p_turn ga gb la lb .c u2
  have it : (iSeq (mLst (aCons (mC (.str "bytes")) (aCons (mC (.str "units")) (aCons (mC (.str "chars")) aNil))))) (PE a b .no .no) = .ok [.str (Kd.s .b), .str (Kd.s .u), .str (Kd.s .c)] (PE a b .no .no) := gs_seqI (gx_lst (gx_ac (gx_c _ _) (gx_ac (gx_c _ _) (gx_ac (gx_c _ _) (gx_an _)))) rfl) rfl
  have s2 : (sFor (iSeq (mLst (aCons (mC (.str "bytes")) (aCons (mC (.str "units")) (aCons (mC (.str "chars")) aNil))))) (gNm 4) (sSeq (sSet 5 (mCall f_l_sign [false, false] (xsCons (xE (mCall f_l_all [false, false] (xsCons (xE (mVar 0)) (xsCons (xE (mVar 4)) xsNil)))) (xsCons (xE (mCall f_l_all [false, false] (xsCons (xE (mVar 1)) (xsCons (xE (mVar 4)) xsNil)))) xsNil)))) (sSeq (sIf (mTst (mBin gNeS (xE (mBlt gReprE (xsCons (xE (mCall f_l_caught [false, false, false] (xsCons (xE (mVar 2)) (xsCons (xE (mVar 3)) (xsCons (xE (mVar 4)) xsNil))))) xsNil))) (xE (mBlt gReprE (xsCons (xE (mLst (aCons (mC (.str "told")) (aCons (mVar 5) aNil)))) xsNil))))) (sRet (mC (.bl false))) sNil) (sIf (tAn (mTst (mBin gNe (xVar 4) (xE (mC (.str "units"))))) (mTst (mBin gNe (xVar 5) (xE (mCall f_l_sign [false, false] (xsCons (xE (mVar 0)) (xsCons (xE (mVar 1)) xsNil))))))) (sRet (mC (.bl false))) sNil)))) (PE a b .no .no) = .nx (PE a b (.dat (.str (Kd.s .c))) u3) := gs_for it ((forL_nx rfl p1).trans ((forL_nx rfl p2).trans (forL_nx rfl p3)))
  have key : m_l_pair_right e0 = .rt (.bl true) (PE a b (.dat (.str (Kd.s .c))) u3) := by
    unfold m_l_pair_right
    exact gs_seq s0 (gs_nx (gs_seq (gs_if t1 (gx_iteF (gs_nil _))) (gs_nx (gs_seq s2 (gs_nx (gs_ret (gx_c _ _)))))))
  unfold f_l_pair_right
  exact run_rt (e0 := e0) rfl key rfl
end
end Tc

/-! # K7 -/
namespace Tc
open PySem Pu
/-! # the law -/
theorem dm {env : Env'} {i : Nat} {d : D} (h : env[i]? = some (.dat d)) : deref env (.inr i) = some d := by simp only [deref, h]
def LV (ns : List Int) (x1 x2 x3 x4 x5 x6 x8 x9 : Sl) : Env' := [.dat (.scr ns), x1, x2, x3, x4, x5, x6, .no, x8, x9]
def Gd (l : List Int) : Prop := Good l ∧ l.length ≤ 100
abbrev eI (l : List Int) : D := .lst (l.map D.int)
theorem eI_one (r : Int) : D.lst [.int r] = eI [r] := rfl
section
variable {ns : List Int} {x1 x3 x8 x9 : Sl}
abbrev tB : Ms := (sSeq (sSet 4 (mCall f_l_chars [true, false] (xsCons (xVar 2) (xsCons (xE (mC (.int 4))) xsNil)))) (sSeq (sSetO 5 (mLst (aCons (mBin gAdd (xVar 4) (xE (mCall f_l_chars [true, false] (xsCons (xVar 2) (xsCons (xE (mC (.int 3))) xsNil))))) (aCons (mBin gAdd (xVar 4) (xE (mCall f_l_chars [true, false] (xsCons (xVar 2) (xsCons (xE (mC (.int 3))) xsNil))))) (aCons (mVar 4) (aCons (mCall f_l_chars [true, false] (xsCons (xVar 2) (xsCons (xE (mC (.int 6))) xsNil))) aNil)))))) (sSeq (sApp 5 (mBin gAdd (xE (mBin gAdd (xVar 4) (xE (mLst (aCons (mBin gSub (xE (mC (.int 65535))) (xE (mCall f_l_take [true, false] (xsCons (xVar 2) (xsCons (xE (mC (.int 8192))) xsNil))))) aNil))))) (xE (mCall f_l_chars [true, false] (xsCons (xVar 2) (xsCons (xE (mC (.int 2))) xsNil)))))) (sSeq (sApp 5 (mBin gAdd (xVar 4) (xE (mLst (aCons (mBin gAdd (xE (mC (.int 65536))) (xE (mCall f_l_take [true, false] (xsCons (xVar 2) (xsCons (xE (mC (.int 1024))) xsNil))))) aNil))))) (sSeq (sFor (iSeq (mFrz 5)) (gNm 6) (sIf (mTst (mBin gNe (xE (mLc (iSeq (mFrz 5)) (gNm 7) (tNt (mTst (mCall f_l_pair_right [false, false] (xsCons (xE (mVar 6)) (xsCons (xE (mVar 7)) xsNil))))) (mVar 7) (List.map (fun x => x.2) ([("_law_right", 7)] : List (PySem.Str × Nat))))) (xE (mLst aNil)))) (sRet (mC (.bl false))) sNil)) (sSeq (sSet 8 (mMake 0 1 f_Text_init (xsCons (xE (mBin gIx (xVar 5) (xE (mC (.int 0))))) xsNil))) (sFor (iSeq (mLst (aCons (mC .non) (aCons (mC (.bl true)) (aCons (mC (.int 7)) (aCons (mC (.str "ab")) (aCons (mBin gIx (xVar 5) (xE (mC (.int 0)))) (aCons mDct0 (aCons (mTup aNil) aNil))))))))) (gNm 9) (sSeq (sIf (tOrr (mTst (mBin (gNeE []) (xE (mCall f_l_caught [false, false, false] (xsCons (xE (mVar 9)) (xsCons (xE (mC .non)) (xsCons (xE (mC .non)) xsNil))))) (xE (mLst (aCons (mC (.str "text")) (aCons (mVar 9) aNil)))))) (mTst (mBin (gNeE []) (xE (mCall f_l_caught [false, false, false] (xsCons (xE (mVar 8)) (xsCons (xE (mVar 9)) (xsCons (xE (mC (.str "x"))) xsNil))))) (xE (mLst (aCons (mC (.str "text")) (aCons (mVar 9) aNil))))))) (sRet (mC (.bl false))) sNil) (sIf (mTst (mBin (gNeE []) (xE (mCall f_l_caught [false, false, false] (xsCons (xE (mVar 8)) (xsCons (xE (mVar 8)) (xsCons (xE (mVar 9)) xsNil))))) (xE (mLst (aCons (mC (.str "kind")) (aCons (mVar 9) aNil)))))) (sRet (mC (.bl false))) sNil)))))))))
theorem good_app {a b : List Int} (ha : Good a) (hb : Good b) : Good (a ++ b) := fun c m => (List.mem_append.mp m).elim (ha c) (hb c)
theorem gadd_i (a b : List Int) (h : a.length + b.length ≤ 1000000) : gAdd (.lst (a.map D.int)) (.lst (b.map D.int)) = some (.lst ((a ++ b).map D.int)) := by
  rw [gadd_l (by rw [List.length_map, List.length_map]; omega), ← List.map_append]
theorem t0 {n : Nat} {d : D} (h : Bx n d) (hn : n ≤ 500000) (x4 x5 x6 : Sl) : ∃ (a l1 l2 l4 l5 l6 : List Int) (d' : D), Gd a ∧ Gd l1 ∧ Gd l2 ∧ Gd l4 ∧ Gd l5 ∧ Gd l6 ∧ Bx (n + 10010) d' ∧
    (∀ o, thn (.nx (LV ns x1 (.own d') x3 (.dat (eI a)) (.own (.lst [eI l1, eI l2, eI a, eI l4, eI l5, eI l6])) x6 x8 x9)) (sSeq (sFor (iSeq (mFrz 5)) (gNm 6) (sIf (mTst (mBin gNe (xE (mLc (iSeq (mFrz 5)) (gNm 7) (tNt (mTst (mCall f_l_pair_right [false, false] (xsCons (xE (mVar 6)) (xsCons (xE (mVar 7)) xsNil))))) (mVar 7) (List.map (fun x => x.2) ([("_law_right", 7)] : List (PySem.Str × Nat))))) (xE (mLst aNil)))) (sRet (mC (.bl false))) sNil)) (sSeq (sSet 8 (mMake 0 1 f_Text_init (xsCons (xE (mBin gIx (xVar 5) (xE (mC (.int 0))))) xsNil))) (sFor (iSeq (mLst (aCons (mC .non) (aCons (mC (.bl true)) (aCons (mC (.int 7)) (aCons (mC (.str "ab")) (aCons (mBin gIx (xVar 5) (xE (mC (.int 0)))) (aCons mDct0 (aCons (mTup aNil) aNil))))))))) (gNm 9) (sSeq (sIf (tOrr (mTst (mBin (gNeE []) (xE (mCall f_l_caught [false, false, false] (xsCons (xE (mVar 9)) (xsCons (xE (mC .non)) (xsCons (xE (mC .non)) xsNil))))) (xE (mLst (aCons (mC (.str "text")) (aCons (mVar 9) aNil)))))) (mTst (mBin (gNeE []) (xE (mCall f_l_caught [false, false, false] (xsCons (xE (mVar 8)) (xsCons (xE (mVar 9)) (xsCons (xE (mC (.str "x"))) xsNil))))) (xE (mLst (aCons (mC (.str "text")) (aCons (mVar 9) aNil))))))) (sRet (mC (.bl false))) sNil) (sIf (mTst (mBin (gNeE []) (xE (mCall f_l_caught [false, false, false] (xsCons (xE (mVar 8)) (xsCons (xE (mVar 8)) (xsCons (xE (mVar 9)) xsNil))))) (xE (mLst (aCons (mC (.str "kind")) (aCons (mVar 9) aNil)))))) (sRet (mC (.bl false))) sNil))))) = o → tB (LV ns x1 (.own d) x3 x4 x5 x6 x8 x9) = o) := by
  obtain ⟨a, b1, e1, ga, la, h1⟩ := v_chars h (most := 4) (by omega) (by decide) (by decide)
  obtain ⟨c1, b2, e2, g1, k1, h2⟩ := v_chars h1 (most := 3) (by omega) (by decide) (by decide)
  obtain ⟨c2, b3, e3, g2, k2, h3⟩ := v_chars h2 (most := 3) (by omega) (by decide) (by decide)
  obtain ⟨c4, b4, e4, g4, k4, h4⟩ := v_chars h3 (most := 6) (by omega) (by decide) (by decide)
  obtain ⟨r, b5, e5, r0, r1, h5⟩ := v_take h4 (m := 8192) (by decide) (by decide) (by omega)
  obtain ⟨c5, b6, e6, g5, k5, h6⟩ := v_chars h5 (most := 2) (by omega) (by decide) (by decide)
  obtain ⟨r', b7, e7, r0', r1', h7⟩ := v_take h6 (m := 1024) (by decide) (by decide) (by omega)
  have gr : Good [65535 - r] := fun c m => by
    rw [List.mem_singleton.mp m]
    unfold Gc
    omega
  have gr' : Good [65536 + r'] := fun c m => by
    rw [List.mem_singleton.mp m]
    unfold Gc
    omega
  refine ⟨a, a ++ c1, a ++ c2, c4, a ++ [65535 - r] ++ c5, a ++ [65536 + r'], b7, ⟨ga, by omega⟩, ⟨good_app ga g1, by rw [List.length_append]; omega⟩, ⟨good_app ga g2, by rw [List.length_append]; omega⟩, ⟨g4, by omega⟩, ⟨good_app (good_app ga gr) g5, by simp only [List.length_append, List.length_cons, List.length_nil]; omega⟩, ⟨good_app ga gr', by simp only [List.length_append, List.length_cons, List.length_nil]; omega⟩, h7.le (by omega), fun o ho => ?_⟩
  have a1 := gadd_i a c1 (by omega)
  have a2 := gadd_i a c2 (by omega)
  have a3 := gadd_i a [65535 - r] (by simp only [List.length_cons, List.length_nil]; omega)
  have a4 := gadd_i (a ++ [65535 - r]) c5 (by simp only [List.length_append, List.length_cons, List.length_nil]; omega)
  have a5 := gadd_i a [65536 + r'] (by simp only [List.length_cons, List.length_nil]; omega)
  have s0 : (sSet 4 (mCall f_l_chars [true, false] (xsCons (xVar 2) (xsCons (xE (mC (.int 4))) xsNil)))) (LV ns x1 (.own d) x3 x4 x5 x6 x8 x9) = .nx (LV ns x1 (.own b1) x3 (.dat (eI a)) x5 x6 x8 x9) := by
    unfold LV eI
    repeat' (first
        | with_reducible assumption
        | (with_reducible exact ge_set0)
        | (with_reducible apply ge_set1)
        | (with_reducible apply gg_nm)
        | (with_reducible exact gg_nl _)
        | (with_reducible apply gg_cn)
        | (with_reducible apply gg_tp)
        | (with_reducible exact ga_nil _)
        | (with_reducible apply ga_inl)
        | (with_reducible apply ga_inr)
        | (with_reducible exact gd_nil _)
        | (with_reducible apply gd_cons)
        | (with_reducible exact gm_nil _)
        | (with_reducible apply gm_cons)
        | (with_reducible exact gm_setN _)
        | (with_reducible apply gm_setF)
        | (with_reducible apply gm_setT)
        | (with_reducible apply gs_seq)
        | (with_reducible apply gs_nx)
        | (with_reducible exact gs_rt)
        | (with_reducible exact gs_er)
        | (with_reducible exact gs_bk)
        | (with_reducible exact gs_ct)
        | (with_reducible apply gx_iteT)
        | (with_reducible apply gx_iteF)
        | (with_reducible apply gx_iteNT)
        | (with_reducible apply gx_iteNF)
        | (with_reducible apply gs_if)
        | (with_reducible exact gs_nil _)
        | (with_reducible apply gs_ret)
        | (with_reducible apply gs_exp)
        | (with_reducible apply gs_set)
        | (with_reducible apply gs_setO)
        | (with_reducible apply gs_setM)
        | (with_reducible apply gs_asg)
        | (with_reducible apply gs_par)
        | (with_reducible apply gs_app)
        | (with_reducible apply gs_put)
        | (with_reducible apply gs_raise)
        | (with_reducible apply gs_for)
        | (with_reducible apply gs_seqI)
        | (with_reducible apply gs_lc)
        | (with_reducible exact gx_c _ _)
        | (with_reducible apply gx_var)
        | (with_reducible apply gx_e)
        | (with_reducible exact gx_xn _)
        | (with_reducible exact gx_an _)
        | (with_reducible exact gx_on _)
        | (with_reducible apply gx_xc)
        | (with_reducible apply gx_ac)
        | (with_reducible apply gx_lst)
        | (with_reducible apply gx_tup)
        | (with_reducible apply gx_bin)
        | (with_reducible apply gx_un)
        | (with_reducible apply gx_blt)
        | (with_reducible apply gx_fld)
        | (with_reducible apply gx_isi)
        | (with_reducible apply gx_os)
        | (with_reducible apply gx_sl)
        | (with_reducible apply gx_call)
        | (with_reducible apply gx_meth)
        | (with_reducible apply gx_meth0)
        | (with_reducible apply gx_prop)
        | (with_reducible apply gx_ixO)
        | (with_reducible apply gx_make)
        | (with_reducible apply gx_methK)
        | (with_reducible apply gx_methD)
        | (with_reducible apply gx_callK)
        | (with_reducible apply gx_callD)
        | (with_reducible apply gx_tst)
        | (with_reducible apply gx_nt)
        | (with_reducible apply gx_an1)
        | (with_reducible apply gx_or1)
        | (with_reducible apply gx_van)
        | (with_reducible apply gx_vor)
        | (with_reducible apply gx_vnt)
        | (with_reducible apply gx_if)
        | (with_reducible apply gx_idx)
        | (with_reducible apply gs_enB)
        | (with_reducible apply gs_zpB)
        | assumption
        | exact List.nodup_nil
        | exact gn_one _
        | exact ⟨rfl, rfl⟩
        | rfl)
  have s1 : (sSetO 5 (mLst (aCons (mBin gAdd (xVar 4) (xE (mCall f_l_chars [true, false] (xsCons (xVar 2) (xsCons (xE (mC (.int 3))) xsNil))))) (aCons (mBin gAdd (xVar 4) (xE (mCall f_l_chars [true, false] (xsCons (xVar 2) (xsCons (xE (mC (.int 3))) xsNil))))) (aCons (mVar 4) (aCons (mCall f_l_chars [true, false] (xsCons (xVar 2) (xsCons (xE (mC (.int 6))) xsNil))) aNil)))))) (LV ns x1 (.own b1) x3 (.dat (eI a)) x5 x6 x8 x9) = .nx (LV ns x1 (.own b4) x3 (.dat (eI a)) (.own (.lst [eI (a ++ c1), eI (a ++ c2), eI a, eI c4])) x6 x8 x9) := by
    generalize a ++ c1 = w1 at a1
    generalize a ++ c2 = w2 at a2
    unfold LV eI
    repeat' (first
        | with_reducible assumption
        | (with_reducible exact ge_set0)
        | (with_reducible apply ge_set1)
        | (with_reducible apply gg_nm)
        | (with_reducible exact gg_nl _)
        | (with_reducible apply gg_cn)
        | (with_reducible apply gg_tp)
        | (with_reducible exact ga_nil _)
        | (with_reducible apply ga_inl)
        | (with_reducible apply ga_inr)
        | (with_reducible exact gd_nil _)
        | (with_reducible apply gd_cons)
        | (with_reducible exact gm_nil _)
        | (with_reducible apply gm_cons)
        | (with_reducible exact gm_setN _)
        | (with_reducible apply gm_setF)
        | (with_reducible apply gm_setT)
        | (with_reducible apply gs_seq)
        | (with_reducible apply gs_nx)
        | (with_reducible exact gs_rt)
        | (with_reducible exact gs_er)
        | (with_reducible exact gs_bk)
        | (with_reducible exact gs_ct)
        | (with_reducible apply gx_iteT)
        | (with_reducible apply gx_iteF)
        | (with_reducible apply gx_iteNT)
        | (with_reducible apply gx_iteNF)
        | (with_reducible apply gs_if)
        | (with_reducible exact gs_nil _)
        | (with_reducible apply gs_ret)
        | (with_reducible apply gs_exp)
        | (with_reducible apply gs_set)
        | (with_reducible apply gs_setO)
        | (with_reducible apply gs_setM)
        | (with_reducible apply gs_asg)
        | (with_reducible apply gs_par)
        | (with_reducible apply gs_app)
        | (with_reducible apply gs_put)
        | (with_reducible apply gs_raise)
        | (with_reducible apply gs_for)
        | (with_reducible apply gs_seqI)
        | (with_reducible apply gs_lc)
        | (with_reducible exact gx_c _ _)
        | (with_reducible apply gx_var)
        | (with_reducible apply gx_e)
        | (with_reducible exact gx_xn _)
        | (with_reducible exact gx_an _)
        | (with_reducible exact gx_on _)
        | (with_reducible apply gx_xc)
        | (with_reducible apply gx_ac)
        | (with_reducible apply gx_lst)
        | (with_reducible apply gx_tup)
        | (with_reducible apply gx_bin)
        | (with_reducible apply gx_un)
        | (with_reducible apply gx_blt)
        | (with_reducible apply gx_fld)
        | (with_reducible apply gx_isi)
        | (with_reducible apply gx_os)
        | (with_reducible apply gx_sl)
        | (with_reducible apply gx_call)
        | (with_reducible apply gx_meth)
        | (with_reducible apply gx_meth0)
        | (with_reducible apply gx_prop)
        | (with_reducible apply gx_ixO)
        | (with_reducible apply gx_make)
        | (with_reducible apply gx_methK)
        | (with_reducible apply gx_methD)
        | (with_reducible apply gx_callK)
        | (with_reducible apply gx_callD)
        | (with_reducible apply gx_tst)
        | (with_reducible apply gx_nt)
        | (with_reducible apply gx_an1)
        | (with_reducible apply gx_or1)
        | (with_reducible apply gx_van)
        | (with_reducible apply gx_vor)
        | (with_reducible apply gx_vnt)
        | (with_reducible apply gx_if)
        | (with_reducible apply gx_idx)
        | (with_reducible apply gs_enB)
        | (with_reducible apply gs_zpB)
        | assumption
        | exact List.nodup_nil
        | exact gn_one _
        | exact ⟨rfl, rfl⟩
        | rfl)
  have s2 : (sApp 5 (mBin gAdd (xE (mBin gAdd (xVar 4) (xE (mLst (aCons (mBin gSub (xE (mC (.int 65535))) (xE (mCall f_l_take [true, false] (xsCons (xVar 2) (xsCons (xE (mC (.int 8192))) xsNil))))) aNil))))) (xE (mCall f_l_chars [true, false] (xsCons (xVar 2) (xsCons (xE (mC (.int 2))) xsNil)))))) (LV ns x1 (.own b4) x3 (.dat (eI a)) (.own (.lst [eI (a ++ c1), eI (a ++ c2), eI a, eI c4])) x6 x8 x9) = .nx (LV ns x1 (.own b6) x3 (.dat (eI a)) (.own (.lst [eI (a ++ c1), eI (a ++ c2), eI a, eI c4, eI (a ++ [65535 - r] ++ c5)])) x6 x8 x9) := by
    have m1 : (mBin gAdd (xE (mBin gAdd (xVar 4) (xE (mLst (aCons (mBin gSub (xE (mC (.int 65535))) (xE (mCall f_l_take [true, false] (xsCons (xVar 2) (xsCons (xE (mC (.int 8192))) xsNil))))) aNil))))) (xE (mCall f_l_chars [true, false] (xsCons (xVar 2) (xsCons (xE (mC (.int 2))) xsNil))))) (LV ns x1 (.own b4) x3 (.dat (eI a)) (.own (.lst [eI (a ++ c1), eI (a ++ c2), eI a, eI c4])) x6 x8 x9) = .ok (eI (a ++ [65535 - r] ++ c5)) (LV ns x1 (.own b6) x3 (.dat (eI a)) (.own (.lst [eI (a ++ c1), eI (a ++ c2), eI a, eI c4])) x6 x8 x9) := by
      have gs : gSub (.int 65535) (.int r) = some (.int (65535 - r)) := rfl
      simp only [List.map_cons, List.map_nil] at a3
      generalize a ++ [65535 - r] ++ c5 = w1 at a4 ⊢
      generalize a ++ [65535 - r] = w3 at a3 a4
      generalize (.lst [eI (a ++ c1), eI (a ++ c2), eI a, eI c4] : D) = W
      unfold LV eI
      repeat' (first
          | with_reducible assumption
          | (with_reducible exact ge_set0)
          | (with_reducible apply ge_set1)
          | (with_reducible apply gg_nm)
          | (with_reducible exact gg_nl _)
          | (with_reducible apply gg_cn)
          | (with_reducible apply gg_tp)
          | (with_reducible exact ga_nil _)
          | (with_reducible apply ga_inl)
          | (with_reducible apply ga_inr)
          | (with_reducible exact gd_nil _)
          | (with_reducible apply gd_cons)
          | (with_reducible exact gm_nil _)
          | (with_reducible apply gm_cons)
          | (with_reducible exact gm_setN _)
          | (with_reducible apply gm_setF)
          | (with_reducible apply gm_setT)
          | (with_reducible apply gs_seq)
          | (with_reducible apply gs_nx)
          | (with_reducible exact gs_rt)
          | (with_reducible exact gs_er)
          | (with_reducible exact gs_bk)
          | (with_reducible exact gs_ct)
          | (with_reducible apply gx_iteT)
          | (with_reducible apply gx_iteF)
          | (with_reducible apply gx_iteNT)
          | (with_reducible apply gx_iteNF)
          | (with_reducible apply gs_if)
          | (with_reducible exact gs_nil _)
          | (with_reducible apply gs_ret)
          | (with_reducible apply gs_exp)
          | (with_reducible apply gs_set)
          | (with_reducible apply gs_setO)
          | (with_reducible apply gs_setM)
          | (with_reducible apply gs_asg)
          | (with_reducible apply gs_par)
          | (with_reducible apply gs_app)
          | (with_reducible apply gs_put)
          | (with_reducible apply gs_raise)
          | (with_reducible apply gs_for)
          | (with_reducible apply gs_seqI)
          | (with_reducible apply gs_lc)
          | (with_reducible exact gx_c _ _)
          | (with_reducible apply gx_var)
          | (with_reducible apply gx_e)
          | (with_reducible exact gx_xn _)
          | (with_reducible exact gx_an _)
          | (with_reducible exact gx_on _)
          | (with_reducible apply gx_xc)
          | (with_reducible apply gx_ac)
          | (with_reducible apply gx_lst)
          | (with_reducible apply gx_tup)
          | (with_reducible apply gx_bin)
          | (with_reducible apply gx_un)
          | (with_reducible apply gx_blt)
          | (with_reducible apply gx_fld)
          | (with_reducible apply gx_isi)
          | (with_reducible apply gx_os)
          | (with_reducible apply gx_sl)
          | (with_reducible apply gx_call)
          | (with_reducible apply gx_meth)
          | (with_reducible apply gx_meth0)
          | (with_reducible apply gx_prop)
          | (with_reducible apply gx_ixO)
          | (with_reducible apply gx_make)
          | (with_reducible apply gx_methK)
          | (with_reducible apply gx_methD)
          | (with_reducible apply gx_callK)
          | (with_reducible apply gx_callD)
          | (with_reducible apply gx_tst)
          | (with_reducible apply gx_nt)
          | (with_reducible apply gx_an1)
          | (with_reducible apply gx_or1)
          | (with_reducible apply gx_van)
          | (with_reducible apply gx_vor)
          | (with_reducible apply gx_vnt)
          | (with_reducible apply gx_if)
          | (with_reducible apply gx_idx)
          | (with_reducible apply gs_enB)
          | (with_reducible apply gs_zpB)
          | assumption
          | exact List.nodup_nil
          | exact gn_one _
          | exact ⟨rfl, rfl⟩
          | rfl)
    exact gs_app rfl m1 rfl (by simp) rfl
  have s3 : (sApp 5 (mBin gAdd (xVar 4) (xE (mLst (aCons (mBin gAdd (xE (mC (.int 65536))) (xE (mCall f_l_take [true, false] (xsCons (xVar 2) (xsCons (xE (mC (.int 1024))) xsNil))))) aNil))))) (LV ns x1 (.own b6) x3 (.dat (eI a)) (.own (.lst [eI (a ++ c1), eI (a ++ c2), eI a, eI c4, eI (a ++ [65535 - r] ++ c5)])) x6 x8 x9) = .nx (LV ns x1 (.own b7) x3 (.dat (eI a)) (.own (.lst [eI (a ++ c1), eI (a ++ c2), eI a, eI c4, eI (a ++ [65535 - r] ++ c5), eI (a ++ [65536 + r'])])) x6 x8 x9) := by
    have m1 : (mBin gAdd (xVar 4) (xE (mLst (aCons (mBin gAdd (xE (mC (.int 65536))) (xE (mCall f_l_take [true, false] (xsCons (xVar 2) (xsCons (xE (mC (.int 1024))) xsNil))))) aNil)))) (LV ns x1 (.own b6) x3 (.dat (eI a)) (.own (.lst [eI (a ++ c1), eI (a ++ c2), eI a, eI c4, eI (a ++ [65535 - r] ++ c5)])) x6 x8 x9) = .ok (eI (a ++ [65536 + r'])) (LV ns x1 (.own b7) x3 (.dat (eI a)) (.own (.lst [eI (a ++ c1), eI (a ++ c2), eI a, eI c4, eI (a ++ [65535 - r] ++ c5)])) x6 x8 x9) := by
      have gs : gAdd (.int 65536) (.int r') = some (.int (65536 + r')) := rfl
      simp only [List.map_cons, List.map_nil] at a5
      generalize a ++ [65536 + r'] = w3 at a5 ⊢
      generalize (.lst [eI (a ++ c1), eI (a ++ c2), eI a, eI c4, eI (a ++ [65535 - r] ++ c5)] : D) = W
      unfold LV eI
      repeat' (first
          | with_reducible assumption
          | (with_reducible exact ge_set0)
          | (with_reducible apply ge_set1)
          | (with_reducible apply gg_nm)
          | (with_reducible exact gg_nl _)
          | (with_reducible apply gg_cn)
          | (with_reducible apply gg_tp)
          | (with_reducible exact ga_nil _)
          | (with_reducible apply ga_inl)
          | (with_reducible apply ga_inr)
          | (with_reducible exact gd_nil _)
          | (with_reducible apply gd_cons)
          | (with_reducible exact gm_nil _)
          | (with_reducible apply gm_cons)
          | (with_reducible exact gm_setN _)
          | (with_reducible apply gm_setF)
          | (with_reducible apply gm_setT)
          | (with_reducible apply gs_seq)
          | (with_reducible apply gs_nx)
          | (with_reducible exact gs_rt)
          | (with_reducible exact gs_er)
          | (with_reducible exact gs_bk)
          | (with_reducible exact gs_ct)
          | (with_reducible apply gx_iteT)
          | (with_reducible apply gx_iteF)
          | (with_reducible apply gx_iteNT)
          | (with_reducible apply gx_iteNF)
          | (with_reducible apply gs_if)
          | (with_reducible exact gs_nil _)
          | (with_reducible apply gs_ret)
          | (with_reducible apply gs_exp)
          | (with_reducible apply gs_set)
          | (with_reducible apply gs_setO)
          | (with_reducible apply gs_setM)
          | (with_reducible apply gs_asg)
          | (with_reducible apply gs_par)
          | (with_reducible apply gs_app)
          | (with_reducible apply gs_put)
          | (with_reducible apply gs_raise)
          | (with_reducible apply gs_for)
          | (with_reducible apply gs_seqI)
          | (with_reducible apply gs_lc)
          | (with_reducible exact gx_c _ _)
          | (with_reducible apply gx_var)
          | (with_reducible apply gx_e)
          | (with_reducible exact gx_xn _)
          | (with_reducible exact gx_an _)
          | (with_reducible exact gx_on _)
          | (with_reducible apply gx_xc)
          | (with_reducible apply gx_ac)
          | (with_reducible apply gx_lst)
          | (with_reducible apply gx_tup)
          | (with_reducible apply gx_bin)
          | (with_reducible apply gx_un)
          | (with_reducible apply gx_blt)
          | (with_reducible apply gx_fld)
          | (with_reducible apply gx_isi)
          | (with_reducible apply gx_os)
          | (with_reducible apply gx_sl)
          | (with_reducible apply gx_call)
          | (with_reducible apply gx_meth)
          | (with_reducible apply gx_meth0)
          | (with_reducible apply gx_prop)
          | (with_reducible apply gx_ixO)
          | (with_reducible apply gx_make)
          | (with_reducible apply gx_methK)
          | (with_reducible apply gx_methD)
          | (with_reducible apply gx_callK)
          | (with_reducible apply gx_callD)
          | (with_reducible apply gx_tst)
          | (with_reducible apply gx_nt)
          | (with_reducible apply gx_an1)
          | (with_reducible apply gx_or1)
          | (with_reducible apply gx_van)
          | (with_reducible apply gx_vor)
          | (with_reducible apply gx_vnt)
          | (with_reducible apply gx_if)
          | (with_reducible apply gx_idx)
          | (with_reducible apply gs_enB)
          | (with_reducible apply gs_zpB)
          | assumption
          | exact List.nodup_nil
          | exact gn_one _
          | exact ⟨rfl, rfl⟩
          | rfl)
    exact gs_app rfl m1 rfl (by simp) rfl
  exact gs_seq s0 (gs_nx (gs_seq s1 (gs_nx (gs_seq s2 (gs_nx (gs_seq s3 ho))))))
abbrev lB : Ms := (sIf (mTst (mBin gNe (xE (mLc (iSeq (mFrz 5)) (gNm 7) (tNt (mTst (mCall f_l_pair_right [false, false] (xsCons (xE (mVar 6)) (xsCons (xE (mVar 7)) xsNil))))) (mVar 7) (List.map (fun x => x.2) ([("_law_right", 7)] : List (PySem.Str × Nat))))) (xE (mLst aNil)))) (sRet (mC (.bl false))) sNil)
theorem st_left {a : List Int} {x2 x4 : Sl} {W : List (List Int)} (ga : Gd a) (gw : ∀ l ∈ W, Gd l) (hl : W.length ≤ 100) : lB (LV ns x1 x2 x3 x4 (.dat (.lst (W.map eI))) (.dat (eI a)) x8 x9) = .nx (LV ns x1 x2 x3 x4 (.dat (.lst (W.map eI))) (.dat (eI a)) x8 x9) := by
  have c := lc_fil (tg := gNm 7) (tt := (tNt (mTst (mCall f_l_pair_right [false, false] (xsCons (xE (mVar 6)) (xsCons (xE (mVar 7)) xsNil)))))) (me := mVar 7) (vs := [7]) (p := fun _ => false) (env := LV ns x1 x2 x3 x4 (.dat (.lst (W.map eI))) (.dat (eI a)) x8 x9) (W.map eI) [] (by rw [List.length_map]; simp only [List.length_nil]; omega) fun d m => by
    obtain ⟨b, hb, rfl⟩ := List.mem_map.mp m
    have gb := gw b hb
    refine ⟨[.dat (.scr ns), x1, x2, x3, x4, .dat (.lst (W.map eI)), .dat (eI a), .dat (eI b), x8, x9], rfl, ?_, rfl, rfl⟩
    have e := v_pair ga.1 gb.1 (Nat.le_trans ga.2 (by decide)) (Nat.le_trans gb.2 (by decide))
    exact gx_nt (b := true) (gx_tst (gx_call (gx_xc (gx_e (gx_var rfl)) (gx_xc (gx_e (gx_var rfl)) (gx_xn _))) rfl rfl List.nodup_nil e rfl))
  rw [show (W.map eI).filter (fun _ => false) = [] by simp, List.nil_append] at c
  have nn : gNe (.lst []) (.lst []) = some (.bl false) := okB_of (by decide +kernel)
  have it : (iSeq (mFrz 5)) (LV ns x1 x2 x3 x4 (.dat (.lst (W.map eI))) (.dat (eI a)) x8 x9) = .ok (W.map eI) (LV ns x1 x2 x3 x4 (.dat (.lst (W.map eI))) (.dat (eI a)) x8 x9) := gs_seqI rfl rfl
  have lc : (mLc (iSeq (mFrz 5)) (gNm 7) (tNt (mTst (mCall f_l_pair_right [false, false] (xsCons (xE (mVar 6)) (xsCons (xE (mVar 7)) xsNil))))) (mVar 7) (List.map (fun x => x.2) ([("_law_right", 7)] : List (PySem.Str × Nat)))) (LV ns x1 x2 x3 x4 (.dat (.lst (W.map eI))) (.dat (eI a)) x8 x9) = .ok (.lst []) (LV ns x1 x2 x3 x4 (.dat (.lst (W.map eI))) (.dat (eI a)) x8 x9) := gs_lc it rfl c rfl
  exact gs_if (b := false) (gx_tst (gx_bin (gx_e lc) (gx_e (gx_lst (gx_an _) rfl)) rfl rfl nn)) (gx_iteF (gs_nil _))
theorem lp_left {x2 x4 : Sl} {W : List (List Int)} (gw : ∀ l ∈ W, Gd l) (hl : W.length ≤ 100) : ∀ (U : List (List Int)) (x6 : Sl), (∀ l ∈ U, Gd l) → ∃ y6, forL (gNm 6) lB (U.map eI) (LV ns x1 x2 x3 x4 (.dat (.lst (W.map eI))) x6 x8 x9) = .nx (LV ns x1 x2 x3 x4 (.dat (.lst (W.map eI))) y6 x8 x9)
  | [], x6, _ => ⟨x6, rfl⟩
  | a :: U, x6, h => by
    obtain ⟨y6, ih⟩ := lp_left gw hl U (.dat (eI a)) fun z m => h z (List.mem_cons_of_mem _ m)
    exact ⟨y6, (forL_nx rfl (st_left (h a List.mem_cons_self) gw hl)).trans ih⟩
/-! ## what is no text and no kind -/
structure Odd (d : D) : Prop where
  n : notT d = true
  k : f_is_kind [d] = .ok (.bl false) []
  e1 : gNeE [] (got "text" d) (got "text" d) = some (.bl false)
  e2 : gNeE [] (got "kind" d) (got "kind" d) = some (.bl false)
theorem prs_ints : ∀ l : List Int, prsO [] (l.map D.int) (l.map D.int) = true
  | [] => rfl
  | x :: l => by
    have := prs_ints l
    simp [prsO, prO, flV, L2.eqV, this]
theorem odd_l (l : List Int) : Odd (eI l) := by
  have p := prs_ints l
  have z : ∀ s : Str, (if prsE [] [.str s, eI l] [.str s, eI l] = true then some (D.bl false) else none) = some (.bl false) := fun s => by
    rw [if_pos]
    simp [prsE, prE, prO1, prO, flV, L2.eqV, p]
  exact ⟨rfl, rfl, z _, z _⟩
theorem odd_of {d : D} (h : notT d = true) (k : f_is_kind [d] = .ok (.bl false) []) (e : (okB (gNeE [] (got "text" d) (got "text" d)) false && okB (gNeE [] (got "kind" d) (got "kind" d)) false) = true) : Odd d := by
  rw [Bool.and_eq_true] at e
  exact ⟨h, k, okB_of e.1, okB_of e.2⟩
abbrev oB : Ms := (sSeq (sIf (tOrr (mTst (mBin (gNeE []) (xE (mCall f_l_caught [false, false, false] (xsCons (xE (mVar 9)) (xsCons (xE (mC .non)) (xsCons (xE (mC .non)) xsNil))))) (xE (mLst (aCons (mC (.str "text")) (aCons (mVar 9) aNil)))))) (mTst (mBin (gNeE []) (xE (mCall f_l_caught [false, false, false] (xsCons (xE (mVar 8)) (xsCons (xE (mVar 9)) (xsCons (xE (mC (.str "x"))) xsNil))))) (xE (mLst (aCons (mC (.str "text")) (aCons (mVar 9) aNil))))))) (sRet (mC (.bl false))) sNil) (sIf (mTst (mBin (gNeE []) (xE (mCall f_l_caught [false, false, false] (xsCons (xE (mVar 8)) (xsCons (xE (mVar 8)) (xsCons (xE (mVar 9)) xsNil))))) (xE (mLst (aCons (mC (.str "kind")) (aCons (mVar 9) aNil)))))) (sRet (mC (.bl false))) sNil))
theorem st_odd {a : List Int} {x2 x4 x5 x6 : Sl} {d : D} (h : Odd d) : oB (LV ns x1 x2 x3 x4 x5 x6 (.dat (txt a)) (.dat d)) = .nx (LV ns x1 x2 x3 x4 x5 x6 (.dat (txt a)) (.dat d)) := by
  have c1 := caught_t (v_compare_x1 h.n .non .non)
  have c2 := caught_t (v_compare_x2 h.n a (.str "x"))
  have c3 := caught_k (v_compare_x3 h.k a a)
  have q1 := h.e1
  have q2 := h.e2
  unfold got at c1 c2 c3 q1 q2
  generalize hE : LV ns x1 x2 x3 x4 x5 x6 (.dat (txt a)) (.dat d) = env
  have h8 : env[8]? = some (.dat (txt a)) := by rw [← hE]; rfl
  have h9 : env[9]? = some (.dat d) := by rw [← hE]; rfl
  have t1 : (mTst (mBin (gNeE []) (xE (mCall f_l_caught [false, false, false] (xsCons (xE (mVar 9)) (xsCons (xE (mC .non)) (xsCons (xE (mC .non)) xsNil))))) (xE (mLst (aCons (mC (.str "text")) (aCons (mVar 9) aNil)))))) env = .ok false env := gx_tst (gx_bin (gx_e (gx_call (gx_xc (gx_e (gx_var h9)) (gx_xc (gx_e (gx_c _ _)) (gx_xc (gx_e (gx_c _ _)) (gx_xn _)))) rfl rfl List.nodup_nil c1 rfl)) (gx_e (gx_lst (gx_ac (gx_c _ _) (gx_ac (gx_var h9) (gx_an _))) rfl)) rfl rfl q1)
  have t2 : (mTst (mBin (gNeE []) (xE (mCall f_l_caught [false, false, false] (xsCons (xE (mVar 8)) (xsCons (xE (mVar 9)) (xsCons (xE (mC (.str "x"))) xsNil))))) (xE (mLst (aCons (mC (.str "text")) (aCons (mVar 9) aNil)))))) env = .ok false env := gx_tst (gx_bin (gx_e (gx_call (gx_xc (gx_e (gx_var h8)) (gx_xc (gx_e (gx_var h9)) (gx_xc (gx_e (gx_c _ _)) (gx_xn _)))) rfl rfl List.nodup_nil c2 rfl)) (gx_e (gx_lst (gx_ac (gx_c _ _) (gx_ac (gx_var h9) (gx_an _))) rfl)) rfl rfl q1)
  have t3 : (mTst (mBin (gNeE []) (xE (mCall f_l_caught [false, false, false] (xsCons (xE (mVar 8)) (xsCons (xE (mVar 8)) (xsCons (xE (mVar 9)) xsNil))))) (xE (mLst (aCons (mC (.str "kind")) (aCons (mVar 9) aNil)))))) env = .ok false env := gx_tst (gx_bin (gx_e (gx_call (gx_xc (gx_e (gx_var h8)) (gx_xc (gx_e (gx_var h8)) (gx_xc (gx_e (gx_var h9)) (gx_xn _)))) rfl rfl List.nodup_nil c3 rfl)) (gx_e (gx_lst (gx_ac (gx_c _ _) (gx_ac (gx_var h9) (gx_an _))) rfl)) rfl rfl q2)
  exact gs_seq (gs_if (b := false) (gx_or1 t1 (gx_iteF t2)) (gx_iteF (gs_nil _))) (gs_nx (gs_if t3 (gx_iteF (gs_nil _))))
theorem lp_odd {a : List Int} {x2 x4 x5 x6 : Sl} : ∀ (ds : List D) (x9 : Sl), (∀ d ∈ ds, Odd d) → ∃ y9, forL (gNm 9) oB ds (LV ns x1 x2 x3 x4 x5 x6 (.dat (txt a)) x9) = .nx (LV ns x1 x2 x3 x4 x5 x6 (.dat (txt a)) y9)
  | [], x9, _ => ⟨x9, rfl⟩
  | d :: ds, x9, h => by
    obtain ⟨y9, ih⟩ := lp_odd ds (.dat d) fun z m => h z (List.mem_cons_of_mem _ m)
    exact ⟨y9, (forL_nx rfl (st_odd (h d List.mem_cons_self))).trans ih⟩
theorem t_all {n : Nat} {d : D} (h : Bx n d) (hn : n ≤ 500000) (x4 x5 x6 : Sl) : ∃ (d' : D) (y4 y5 y6 y8 y9 : Sl), Bx (n + 10010) d' ∧ tB (LV ns x1 (.own d) x3 x4 x5 x6 x8 x9) = .nx (LV ns x1 (.own d') x3 y4 y5 y6 y8 y9) := by
  obtain ⟨a, l1, l2, l4, l5, l6, d', ga, g1, g2, g4, g5, g6, hb, k⟩ := t0 (ns := ns) (x1 := x1) (x3 := x3) (x8 := x8) (x9 := x9) h hn x4 x5 x6
  have gw : ∀ l ∈ [l1, l2, a, l4, l5, l6], Gd l := fun l m => by
    simp only [List.mem_cons, List.not_mem_nil, or_false] at m
    rcases m with rfl | rfl | rfl | rfl | rfl | rfl <;> assumption
  obtain ⟨y6, lp⟩ := lp_left (ns := ns) (x1 := x1) (x2 := .own d') (x3 := x3) (x4 := .dat (eI a)) (x8 := x8) (x9 := x9) gw (by simp) [l1, l2, a, l4, l5, l6] x6 gw
  have it : (iSeq (mFrz 5)) (LV ns x1 (.own d') x3 (.dat (eI a)) (.own (.lst [eI l1, eI l2, eI a, eI l4, eI l5, eI l6])) x6 x8 x9) = .ok ([l1, l2, a, l4, l5, l6].map eI) (LV ns x1 (.own d') x3 (.dat (eI a)) (.dat (.lst ([l1, l2, a, l4, l5, l6].map eI))) x6 x8 x9) := gs_seqI rfl rfl
  have i0 : gIx (.lst ([l1, l2, a, l4, l5, l6].map eI)) (.int 0) = some (eI l1) := ix0 _ _
  have ti := v_Text_init (.lst l1) g1.1
  have s5 : (sSet 8 (mMake 0 1 f_Text_init (xsCons (xE (mBin gIx (xVar 5) (xE (mC (.int 0))))) xsNil))) (LV ns x1 (.own d') x3 (.dat (eI a)) (.dat (.lst ([l1, l2, a, l4, l5, l6].map eI))) y6 x8 x9) = .nx (LV ns x1 (.own d') x3 (.dat (eI a)) (.dat (.lst ([l1, l2, a, l4, l5, l6].map eI))) y6 (.dat (txt l1)) x9) := gs_set (gx_make (gx_xc (gx_e (gx_bin (gx_xvd rfl) (gx_e (gx_c _ _)) rfl rfl i0)) (gx_xn _)) rfl rfl ti rfl) rfl rfl
  have od : ∀ z ∈ [D.non, .bl true, .int 7, .str "ab", eI l1, .dct [], .tup []], Odd z := fun z m => by
    simp only [List.mem_cons, List.not_mem_nil, or_false] at m
    rcases m with rfl | rfl | rfl | rfl | rfl | rfl | rfl
    · exact odd_of rfl rfl (by decide +kernel)
    · exact odd_of rfl rfl (by decide +kernel)
    · exact odd_of rfl rfl (by decide +kernel)
    · exact odd_of rfl rfl (by decide +kernel)
    · exact odd_l l1
    · exact odd_of rfl rfl (by decide +kernel)
    · exact odd_of rfl rfl (by decide +kernel)
  obtain ⟨y9, lo⟩ := lp_odd (ns := ns) (x1 := x1) (x2 := .own d') (x3 := x3) (x4 := .dat (eI a)) (x5 := .dat (.lst ([l1, l2, a, l4, l5, l6].map eI))) (x6 := y6) (a := l1) _ x9 od
  have it2 : (iSeq (mLst (aCons (mC .non) (aCons (mC (.bl true)) (aCons (mC (.int 7)) (aCons (mC (.str "ab")) (aCons (mBin gIx (xVar 5) (xE (mC (.int 0)))) (aCons mDct0 (aCons (mTup aNil) aNil))))))))) (LV ns x1 (.own d') x3 (.dat (eI a)) (.dat (.lst ([l1, l2, a, l4, l5, l6].map eI))) y6 (.dat (txt l1)) x9) = .ok [D.non, .bl true, .int 7, .str "ab", eI l1, .dct [], .tup []] (LV ns x1 (.own d') x3 (.dat (eI a)) (.dat (.lst ([l1, l2, a, l4, l5, l6].map eI))) y6 (.dat (txt l1)) x9) := gs_seqI (gx_lst (gx_ac (gx_c _ _) (gx_ac (gx_c _ _) (gx_ac (gx_c _ _) (gx_ac (gx_c _ _) (gx_ac (gx_bin (gx_xvd rfl) (gx_e (gx_c _ _)) rfl rfl i0) (gx_ac rfl (gx_ac (gx_tup (gx_an _) rfl) (gx_an _)))))))) rfl) rfl
  exact ⟨d', _, _, y6, _, y9, hb, k _ (gs_nx (gs_seq (gs_for it lp) (gs_nx (gs_seq s5 (gs_nx (gs_for it2 lo))))))⟩
theorem lp_turn {x1 : Sl} : ∀ (ds : List D) (n : Nat) (d : D) (x3 x4 x5 x6 x8 x9 : Sl), Bx n d → n + 10010 * ds.length ≤ 500000 → ∃ y2 y3 y4 y5 y6 y8 y9, forL (gNm 3) tB ds (LV ns x1 (.own d) x3 x4 x5 x6 x8 x9) = .nx (LV ns x1 y2 y3 y4 y5 y6 y8 y9)
  | [], n, d, x3, x4, x5, x6, x8, x9, _, _ => ⟨_, _, _, _, _, _, _, rfl⟩
  | z :: ds, n, d, x3, x4, x5, x6, x8, x9, h, hn => by
    simp only [List.length_cons] at hn
    obtain ⟨d', y4, y5, y6, y8, y9, hb, e⟩ := t_all (ns := ns) (x1 := x1) (x3 := .dat z) (x8 := x8) (x9 := x9) h (by omega) x4 x5 x6
    obtain ⟨w2, w3, w4, w5, w6, w8, w9, ih⟩ := lp_turn (x1 := x1) ds (n + 10010) d' (.dat z) y4 y5 y6 y8 y9 hb (by omega)
    exact ⟨w2, w3, w4, w5, w6, w8, w9, (forL_nx rfl e).trans ih⟩
theorem e_lap {j : Nat} (x2 x3 x4 x5 x6 x8 x9 : Sl) : ∃ y2 y3 y4 y5 y6 y8 y9, (sSeq (sSetO 2 (mCall f_l_bag [false] (xsCons (xE (mCall f_l_cell [false, false] (xsCons (xE (mVar 0)) (xsCons (xE (mVar 1)) xsNil)))) xsNil))) (sFor (iRn1 (mC (.int 4))) (gNm 3) (sSeq (sSet 4 (mCall f_l_chars [true, false] (xsCons (xVar 2) (xsCons (xE (mC (.int 4))) xsNil)))) (sSeq (sSetO 5 (mLst (aCons (mBin gAdd (xVar 4) (xE (mCall f_l_chars [true, false] (xsCons (xVar 2) (xsCons (xE (mC (.int 3))) xsNil))))) (aCons (mBin gAdd (xVar 4) (xE (mCall f_l_chars [true, false] (xsCons (xVar 2) (xsCons (xE (mC (.int 3))) xsNil))))) (aCons (mVar 4) (aCons (mCall f_l_chars [true, false] (xsCons (xVar 2) (xsCons (xE (mC (.int 6))) xsNil))) aNil)))))) (sSeq (sApp 5 (mBin gAdd (xE (mBin gAdd (xVar 4) (xE (mLst (aCons (mBin gSub (xE (mC (.int 65535))) (xE (mCall f_l_take [true, false] (xsCons (xVar 2) (xsCons (xE (mC (.int 8192))) xsNil))))) aNil))))) (xE (mCall f_l_chars [true, false] (xsCons (xVar 2) (xsCons (xE (mC (.int 2))) xsNil)))))) (sSeq (sApp 5 (mBin gAdd (xVar 4) (xE (mLst (aCons (mBin gAdd (xE (mC (.int 65536))) (xE (mCall f_l_take [true, false] (xsCons (xVar 2) (xsCons (xE (mC (.int 1024))) xsNil))))) aNil))))) (sSeq (sFor (iSeq (mFrz 5)) (gNm 6) (sIf (mTst (mBin gNe (xE (mLc (iSeq (mFrz 5)) (gNm 7) (tNt (mTst (mCall f_l_pair_right [false, false] (xsCons (xE (mVar 6)) (xsCons (xE (mVar 7)) xsNil))))) (mVar 7) (List.map (fun x => x.2) ([("_law_right", 7)] : List (PySem.Str × Nat))))) (xE (mLst aNil)))) (sRet (mC (.bl false))) sNil)) (sSeq (sSet 8 (mMake 0 1 f_Text_init (xsCons (xE (mBin gIx (xVar 5) (xE (mC (.int 0))))) xsNil))) (sFor (iSeq (mLst (aCons (mC .non) (aCons (mC (.bl true)) (aCons (mC (.int 7)) (aCons (mC (.str "ab")) (aCons (mBin gIx (xVar 5) (xE (mC (.int 0)))) (aCons mDct0 (aCons (mTup aNil) aNil))))))))) (gNm 9) (sSeq (sIf (tOrr (mTst (mBin (gNeE []) (xE (mCall f_l_caught [false, false, false] (xsCons (xE (mVar 9)) (xsCons (xE (mC .non)) (xsCons (xE (mC .non)) xsNil))))) (xE (mLst (aCons (mC (.str "text")) (aCons (mVar 9) aNil)))))) (mTst (mBin (gNeE []) (xE (mCall f_l_caught [false, false, false] (xsCons (xE (mVar 8)) (xsCons (xE (mVar 9)) (xsCons (xE (mC (.str "x"))) xsNil))))) (xE (mLst (aCons (mC (.str "text")) (aCons (mVar 9) aNil))))))) (sRet (mC (.bl false))) sNil) (sIf (mTst (mBin (gNeE []) (xE (mCall f_l_caught [false, false, false] (xsCons (xE (mVar 8)) (xsCons (xE (mVar 8)) (xsCons (xE (mVar 9)) xsNil))))) (xE (mLst (aCons (mC (.str "kind")) (aCons (mVar 9) aNil)))))) (sRet (mC (.bl false))) sNil))))))))))) (LV ns (.dat (.int (j : Nat))) x2 x3 x4 x5 x6 x8 x9) = .nx (LV ns (.dat (.int (j : Nat))) y2 y3 y4 y5 y6 y8 y9) := by
  obtain ⟨v, e1⟩ := v_cell ns j
  obtain ⟨b, e2, hb⟩ := v_bag v
  have s0 : (sSetO 2 (mCall f_l_bag [false] (xsCons (xE (mCall f_l_cell [false, false] (xsCons (xE (mVar 0)) (xsCons (xE (mVar 1)) xsNil)))) xsNil))) (LV ns (.dat (.int (j : Nat))) x2 x3 x4 x5 x6 x8 x9) = .nx (LV ns (.dat (.int (j : Nat))) (.own b) x3 x4 x5 x6 x8 x9) := by
    unfold LV
    repeat' (first
        | with_reducible assumption
        | (with_reducible exact ge_set0)
        | (with_reducible apply ge_set1)
        | (with_reducible apply gg_nm)
        | (with_reducible exact gg_nl _)
        | (with_reducible apply gg_cn)
        | (with_reducible apply gg_tp)
        | (with_reducible exact ga_nil _)
        | (with_reducible apply ga_inl)
        | (with_reducible apply ga_inr)
        | (with_reducible exact gd_nil _)
        | (with_reducible apply gd_cons)
        | (with_reducible exact gm_nil _)
        | (with_reducible apply gm_cons)
        | (with_reducible exact gm_setN _)
        | (with_reducible apply gm_setF)
        | (with_reducible apply gm_setT)
        | (with_reducible apply gs_seq)
        | (with_reducible apply gs_nx)
        | (with_reducible exact gs_rt)
        | (with_reducible exact gs_er)
        | (with_reducible exact gs_bk)
        | (with_reducible exact gs_ct)
        | (with_reducible apply gx_iteT)
        | (with_reducible apply gx_iteF)
        | (with_reducible apply gx_iteNT)
        | (with_reducible apply gx_iteNF)
        | (with_reducible apply gs_if)
        | (with_reducible exact gs_nil _)
        | (with_reducible apply gs_ret)
        | (with_reducible apply gs_exp)
        | (with_reducible apply gs_set)
        | (with_reducible apply gs_setO)
        | (with_reducible apply gs_setM)
        | (with_reducible apply gs_asg)
        | (with_reducible apply gs_par)
        | (with_reducible apply gs_app)
        | (with_reducible apply gs_put)
        | (with_reducible apply gs_raise)
        | (with_reducible apply gs_for)
        | (with_reducible apply gs_seqI)
        | (with_reducible apply gs_lc)
        | (with_reducible exact gx_c _ _)
        | (with_reducible apply gx_var)
        | (with_reducible apply gx_e)
        | (with_reducible exact gx_xn _)
        | (with_reducible exact gx_an _)
        | (with_reducible exact gx_on _)
        | (with_reducible apply gx_xc)
        | (with_reducible apply gx_ac)
        | (with_reducible apply gx_lst)
        | (with_reducible apply gx_tup)
        | (with_reducible apply gx_bin)
        | (with_reducible apply gx_un)
        | (with_reducible apply gx_blt)
        | (with_reducible apply gx_fld)
        | (with_reducible apply gx_isi)
        | (with_reducible apply gx_os)
        | (with_reducible apply gx_sl)
        | (with_reducible apply gx_call)
        | (with_reducible apply gx_meth)
        | (with_reducible apply gx_meth0)
        | (with_reducible apply gx_prop)
        | (with_reducible apply gx_ixO)
        | (with_reducible apply gx_make)
        | (with_reducible apply gx_methK)
        | (with_reducible apply gx_methD)
        | (with_reducible apply gx_callK)
        | (with_reducible apply gx_callD)
        | (with_reducible apply gx_tst)
        | (with_reducible apply gx_nt)
        | (with_reducible apply gx_an1)
        | (with_reducible apply gx_or1)
        | (with_reducible apply gx_van)
        | (with_reducible apply gx_vor)
        | (with_reducible apply gx_vnt)
        | (with_reducible apply gx_if)
        | (with_reducible apply gx_idx)
        | (with_reducible apply gs_enB)
        | (with_reducible apply gs_zpB)
        | assumption
        | exact List.nodup_nil
        | exact gn_one _
        | exact ⟨rfl, rfl⟩
        | rfl)
  have ir : (iRn1 (mC (.int 4))) (LV ns (.dat (.int (j : Nat))) (.own b) x3 x4 x5 x6 x8 x9) = .ok (rngD 0 4) (LV ns (.dat (.int (j : Nat))) (.own b) x3 x4 x5 x6 x8 x9) := gs_irn1 (m := 4) (gx_c _ _) (by decide) (by decide)
  obtain ⟨y2, y3, y4, y5, y6, y8, y9, lp⟩ := lp_turn (ns := ns) (x1 := .dat (.int (j : Nat))) (rngD 0 4) 0 b x3 x4 x5 x6 x8 x9 hb (by rw [rng_len]; decide)
  exact ⟨y2, y3, y4, y5, y6, y8, y9, gs_seq s0 (gs_nx (gs_for ir lp))⟩
theorem mx2 (a b : Int) : gMax2 [.int a, .int b] = some (.int (if b > a then b else a)) := rfl
theorem mn2 (a b : Int) : gMin2 [.int a, .int b] = some (.int (if b < a then b else a)) := rfl
end
theorem law_pure (ns : List Int) (hn : ns.length ≤ 63) : f_law [.scr ns] = .ok (.bl true) [] := by
  obtain ⟨K, hK⟩ : ∃ K : Nat, (iRn1 (mBlt gMax2 (xsCons (xE (mC (.int 2))) (xsCons (xE (mBlt gMin2 (xsCons (xE (mC (.int 8))) (xsCons (xE (mBlt gLen (xsCons (xVar 0) xsNil))) xsNil)))) xsNil)))) (LV ns .no .no .no .no .no .no .no .no) = .ok (rngD 0 K) (LV ns .no .no .no .no .no .no .no .no) := by
    have g1 := mn2 8 (ns.length : Int)
    generalize hg : (if (ns.length : Int) < 8 then (ns.length : Int) else 8) = v at g1
    have g2 := mx2 2 v
    generalize hg2 : (if v > 2 then v else 2) = w at g2
    have w0 : 0 ≤ w ∧ w ≤ 8 := by
      rw [← hg2, ← hg]
      split <;> (try split) <;> omega
    refine ⟨w.toNat, gs_irn1 (m := w) ?_ w0.1 (by omega)⟩
    have g3 : gLen [.scr ns] = some (.int (ns.length : Nat)) := rfl
    unfold LV
    repeat' (first
        | with_reducible assumption
        | (with_reducible exact ge_set0)
        | (with_reducible apply ge_set1)
        | (with_reducible apply gg_nm)
        | (with_reducible exact gg_nl _)
        | (with_reducible apply gg_cn)
        | (with_reducible apply gg_tp)
        | (with_reducible exact ga_nil _)
        | (with_reducible apply ga_inl)
        | (with_reducible apply ga_inr)
        | (with_reducible exact gd_nil _)
        | (with_reducible apply gd_cons)
        | (with_reducible exact gm_nil _)
        | (with_reducible apply gm_cons)
        | (with_reducible exact gm_setN _)
        | (with_reducible apply gm_setF)
        | (with_reducible apply gm_setT)
        | (with_reducible apply gs_seq)
        | (with_reducible apply gs_nx)
        | (with_reducible exact gs_rt)
        | (with_reducible exact gs_er)
        | (with_reducible exact gs_bk)
        | (with_reducible exact gs_ct)
        | (with_reducible apply gx_iteT)
        | (with_reducible apply gx_iteF)
        | (with_reducible apply gx_iteNT)
        | (with_reducible apply gx_iteNF)
        | (with_reducible apply gs_if)
        | (with_reducible exact gs_nil _)
        | (with_reducible apply gs_ret)
        | (with_reducible apply gs_exp)
        | (with_reducible apply gs_set)
        | (with_reducible apply gs_setO)
        | (with_reducible apply gs_setM)
        | (with_reducible apply gs_asg)
        | (with_reducible apply gs_par)
        | (with_reducible apply gs_app)
        | (with_reducible apply gs_put)
        | (with_reducible apply gs_raise)
        | (with_reducible apply gs_for)
        | (with_reducible apply gs_seqI)
        | (with_reducible apply gs_lc)
        | (with_reducible exact gx_c _ _)
        | (with_reducible apply gx_var)
        | (with_reducible apply gx_e)
        | (with_reducible exact gx_xn _)
        | (with_reducible exact gx_an _)
        | (with_reducible exact gx_on _)
        | (with_reducible apply gx_xc)
        | (with_reducible apply gx_ac)
        | (with_reducible apply gx_lst)
        | (with_reducible apply gx_tup)
        | (with_reducible apply gx_bin)
        | (with_reducible apply gx_un)
        | (with_reducible apply gx_blt)
        | (with_reducible apply gx_fld)
        | (with_reducible apply gx_isi)
        | (with_reducible apply gx_os)
        | (with_reducible apply gx_sl)
        | (with_reducible apply gx_call)
        | (with_reducible apply gx_meth)
        | (with_reducible apply gx_meth0)
        | (with_reducible apply gx_prop)
        | (with_reducible apply gx_ixO)
        | (with_reducible apply gx_make)
        | (with_reducible apply gx_methK)
        | (with_reducible apply gx_methD)
        | (with_reducible apply gx_callK)
        | (with_reducible apply gx_callD)
        | (with_reducible apply gx_tst)
        | (with_reducible apply gx_nt)
        | (with_reducible apply gx_an1)
        | (with_reducible apply gx_or1)
        | (with_reducible apply gx_van)
        | (with_reducible apply gx_vor)
        | (with_reducible apply gx_vnt)
        | (with_reducible apply gx_if)
        | (with_reducible apply gx_idx)
        | (with_reducible apply gs_enB)
        | (with_reducible apply gs_zpB)
        | assumption
        | exact List.nodup_nil
        | exact gn_one _
        | exact ⟨rfl, rfl⟩
        | rfl)
  obtain ⟨e, h1, y1, y2, y3, y4, y5, y6, y8, y9, rfl⟩ := for_inv (tg := gNm 1) (body := (sSeq (sSetO 2 (mCall f_l_bag [false] (xsCons (xE (mCall f_l_cell [false, false] (xsCons (xE (mVar 0)) (xsCons (xE (mVar 1)) xsNil)))) xsNil))) (sFor (iRn1 (mC (.int 4))) (gNm 3) (sSeq (sSet 4 (mCall f_l_chars [true, false] (xsCons (xVar 2) (xsCons (xE (mC (.int 4))) xsNil)))) (sSeq (sSetO 5 (mLst (aCons (mBin gAdd (xVar 4) (xE (mCall f_l_chars [true, false] (xsCons (xVar 2) (xsCons (xE (mC (.int 3))) xsNil))))) (aCons (mBin gAdd (xVar 4) (xE (mCall f_l_chars [true, false] (xsCons (xVar 2) (xsCons (xE (mC (.int 3))) xsNil))))) (aCons (mVar 4) (aCons (mCall f_l_chars [true, false] (xsCons (xVar 2) (xsCons (xE (mC (.int 6))) xsNil))) aNil)))))) (sSeq (sApp 5 (mBin gAdd (xE (mBin gAdd (xVar 4) (xE (mLst (aCons (mBin gSub (xE (mC (.int 65535))) (xE (mCall f_l_take [true, false] (xsCons (xVar 2) (xsCons (xE (mC (.int 8192))) xsNil))))) aNil))))) (xE (mCall f_l_chars [true, false] (xsCons (xVar 2) (xsCons (xE (mC (.int 2))) xsNil)))))) (sSeq (sApp 5 (mBin gAdd (xVar 4) (xE (mLst (aCons (mBin gAdd (xE (mC (.int 65536))) (xE (mCall f_l_take [true, false] (xsCons (xVar 2) (xsCons (xE (mC (.int 1024))) xsNil))))) aNil))))) (sSeq (sFor (iSeq (mFrz 5)) (gNm 6) (sIf (mTst (mBin gNe (xE (mLc (iSeq (mFrz 5)) (gNm 7) (tNt (mTst (mCall f_l_pair_right [false, false] (xsCons (xE (mVar 6)) (xsCons (xE (mVar 7)) xsNil))))) (mVar 7) (List.map (fun x => x.2) ([("_law_right", 7)] : List (PySem.Str × Nat))))) (xE (mLst aNil)))) (sRet (mC (.bl false))) sNil)) (sSeq (sSet 8 (mMake 0 1 f_Text_init (xsCons (xE (mBin gIx (xVar 5) (xE (mC (.int 0))))) xsNil))) (sFor (iSeq (mLst (aCons (mC .non) (aCons (mC (.bl true)) (aCons (mC (.int 7)) (aCons (mC (.str "ab")) (aCons (mBin gIx (xVar 5) (xE (mC (.int 0)))) (aCons mDct0 (aCons (mTup aNil) aNil))))))))) (gNm 9) (sSeq (sIf (tOrr (mTst (mBin (gNeE []) (xE (mCall f_l_caught [false, false, false] (xsCons (xE (mVar 9)) (xsCons (xE (mC .non)) (xsCons (xE (mC .non)) xsNil))))) (xE (mLst (aCons (mC (.str "text")) (aCons (mVar 9) aNil)))))) (mTst (mBin (gNeE []) (xE (mCall f_l_caught [false, false, false] (xsCons (xE (mVar 8)) (xsCons (xE (mVar 9)) (xsCons (xE (mC (.str "x"))) xsNil))))) (xE (mLst (aCons (mC (.str "text")) (aCons (mVar 9) aNil))))))) (sRet (mC (.bl false))) sNil) (sIf (mTst (mBin (gNeE []) (xE (mCall f_l_caught [false, false, false] (xsCons (xE (mVar 8)) (xsCons (xE (mVar 8)) (xsCons (xE (mVar 9)) xsNil))))) (xE (mLst (aCons (mC (.str "kind")) (aCons (mVar 9) aNil)))))) (sRet (mC (.bl false))) sNil)))))))))))) (fun _ env => ∃ y1 y2 y3 y4 y5 y6 y8 y9, env = LV ns y1 y2 y3 y4 y5 y6 y8 y9) (rngD 0 K) 0 (LV ns .no .no .no .no .no .no .no .no) ⟨_, _, _, _, _, _, _, _, rfl⟩ fun j d env hx ⟨y1, y2, y3, y4, y5, y6, y8, y9, he⟩ => by
    subst he
    obtain ⟨rfl, hj⟩ := rng_at hx
    obtain ⟨z2, z3, z4, z5, z6, z8, z9, q⟩ := e_lap (ns := ns) (j := j) y2 y3 y4 y5 y6 y8 y9
    exact ⟨_, _, rfl, q, _, _, _, _, _, _, _, _, rfl⟩
  unfold f_law m_law
  exact run_rt (e0 := LV ns .no .no .no .no .no .no .no .no) rfl (gs_seq (gs_for hK h1) (gs_nx (gs_ret (gx_c _ _)))) rfl
theorem law_ok (P : Program) : LawOk P := law_by law_pure P
end Tc

namespace Tc
open PySem PySem.Spec PyProof.Rows L2 Pu
theorem refsVE_two {P : Addr} : PySem.HandSPX.refsVE [.ref P, .type "ValueError", .type "Exception", .type "BaseException", .type "object"] = true := by
  show PySem.HandSPX.refsVE [.type "ValueError", .type "Exception", .type "BaseException", .type "object"] = true
  decide +kernel
theorem exm_two {K : PySem.W.Frag} {C D : Addr} {b : Bool} (h1 : PySem.W.subIn K (.ref D) (.type "BaseException") = some true) (h2 : PySem.W.isClsIn K D = true) (h3 : PySem.W.typeIn K (.ref D) = some (.type "type")) (h4 : PySem.W.subIn K (.ref C) (.ref D) = some b) :
    PySem.W.exmOne K (.ref C) (.ref D) = some b := by
  have e1 : (PySem.W.subIn K (.ref D) (.type "BaseException") == some true) = true := by rw [h1] <;> rfl
  have e2 : ((PySem.W.clsIn K D).isSome && PySem.W.typeIn K (.ref D) == some (.type "type")) = true := by
    have h5 : (PySem.W.clsIn K D).isSome = true := h2
    rw [h5, h3] <;> rfl
  show (if (PySem.W.subIn K (.ref D) (.type "BaseException") == some true) = true then
    (if ((PySem.W.clsIn K D).isSome && PySem.W.typeIn K (.ref D) == some (.type "type")) = true then PySem.W.subIn K (.ref C) (.ref D) else none) else none) = some b
  rw [if_pos e1, if_pos e2]
  exact h4
theorem all_mk {K : PySem.W.Frag} {h : Heap} {mg : Str → Option Value} {fa : Addr} (X : K.In h) (G : h.Ns mainGlobals mg) (hfa : mg "law" = some (.ref fa))
    {C_Text : Addr}
    {f_l_bag : Addr} {od_l_bag an_l_bag : Option Addr} {sl_l_bag : Array (Option Value)} {oc_l_bag kV_l_bag dc_l_bag pm_l_bag cd_l_bag ct_l_bag : Value}
    {f_l_cell : Addr} {od_l_cell an_l_cell : Option Addr} {sl_l_cell : Array (Option Value)} {oc_l_cell kV_l_cell dc_l_cell pm_l_cell cd_l_cell ct_l_cell : Value}
    {f_l_take : Addr} {od_l_take an_l_take : Option Addr} {sl_l_take : Array (Option Value)} {oc_l_take kV_l_take dc_l_take pm_l_take cd_l_take ct_l_take : Value}
    {f_l_char : Addr} {od_l_char an_l_char : Option Addr} {sl_l_char : Array (Option Value)} {oc_l_char kV_l_char dc_l_char pm_l_char cd_l_char ct_l_char : Value}
    {f_l_chars : Addr} {od_l_chars an_l_chars : Option Addr} {sl_l_chars : Array (Option Value)} {oc_l_chars kV_l_chars dc_l_chars pm_l_chars cd_l_chars ct_l_chars : Value}
    {f_is_list : Addr} {od_is_list an_is_list : Option Addr} {sl_is_list : Array (Option Value)} {oc_is_list kV_is_list dc_is_list pm_is_list cd_is_list ct_is_list : Value}
    {f_is_whole : Addr} {od_is_whole an_is_whole : Option Addr} {sl_is_whole : Array (Option Value)} {oc_is_whole kV_is_whole dc_is_whole pm_is_whole cd_is_whole ct_is_whole : Value}
    {f_is_integer : Addr} {od_is_integer an_is_integer : Option Addr} {sl_is_integer : Array (Option Value)} {oc_is_integer kV_is_integer dc_is_integer pm_is_integer cd_is_integer ct_is_integer : Value}
    {f_is_char : Addr} {od_is_char an_is_char : Option Addr} {sl_is_char : Array (Option Value)} {oc_is_char kV_is_char dc_is_char pm_is_char cd_is_char ct_is_char : Value}
    {f_check_char : Addr} {od_check_char an_check_char : Option Addr} {sl_check_char : Array (Option Value)} {oc_check_char kV_check_char dc_check_char pm_check_char cd_check_char ct_check_char : Value}
    {f_check_chars : Addr} {od_check_chars an_check_chars : Option Addr} {sl_check_chars : Array (Option Value)} {oc_check_chars kV_check_chars dc_check_chars pm_check_chars cd_check_chars ct_check_chars : Value}
    {f_Text_init : Addr} {od_Text_init an_Text_init : Option Addr} {sl_Text_init : Array (Option Value)} {oc_Text_init kV_Text_init dc_Text_init pm_Text_init cd_Text_init ct_Text_init : Value}
    {f_Text_gt : Addr} {od_Text_gt an_Text_gt : Option Addr} {sl_Text_gt : Array (Option Value)} {oc_Text_gt kV_Text_gt dc_Text_gt pm_Text_gt cd_Text_gt ct_Text_gt : Value}
    {f_Text_lt : Addr} {od_Text_lt an_Text_lt : Option Addr} {sl_Text_lt : Array (Option Value)} {oc_Text_lt kV_Text_lt dc_Text_lt pm_Text_lt cd_Text_lt ct_Text_lt : Value}
    {f_l_sign : Addr} {od_l_sign an_l_sign : Option Addr} {sl_l_sign : Array (Option Value)} {oc_l_sign kV_l_sign dc_l_sign pm_l_sign cd_l_sign ct_l_sign : Value}
    {f_is_kind : Addr} {od_is_kind an_is_kind : Option Addr} {sl_is_kind : Array (Option Value)} {oc_is_kind kV_is_kind dc_is_kind pm_is_kind cd_is_kind ct_is_kind : Value}
    {f_check_kind : Addr} {od_check_kind an_check_kind : Option Addr} {sl_check_kind : Array (Option Value)} {oc_check_kind kV_check_kind dc_check_kind pm_check_kind cd_check_kind ct_check_kind : Value}
    {f_byte_width : Addr} {od_byte_width an_byte_width : Option Addr} {sl_byte_width : Array (Option Value)} {oc_byte_width kV_byte_width dc_byte_width pm_byte_width cd_byte_width ct_byte_width : Value}
    {f_byte_items : Addr} {od_byte_items an_byte_items : Option Addr} {sl_byte_items : Array (Option Value)} {oc_byte_items kV_byte_items dc_byte_items pm_byte_items cd_byte_items ct_byte_items : Value}
    {f_unit_items : Addr} {od_unit_items an_unit_items : Option Addr} {sl_unit_items : Array (Option Value)} {oc_unit_items kV_unit_items dc_unit_items pm_unit_items cd_unit_items ct_unit_items : Value}
    {f_char_items : Addr} {od_char_items an_char_items : Option Addr} {sl_char_items : Array (Option Value)} {oc_char_items kV_char_items dc_char_items pm_char_items cd_char_items ct_char_items : Value}
    {f_items : Addr} {od_items an_items : Option Addr} {sl_items : Array (Option Value)} {oc_items kV_items dc_items pm_items cd_items ct_items : Value}
    {f_l_all : Addr} {od_l_all an_l_all : Option Addr} {sl_l_all : Array (Option Value)} {oc_l_all kV_l_all dc_l_all pm_l_all cd_l_all ct_l_all : Value}
    {f_check_text : Addr} {od_check_text an_check_text : Option Addr} {sl_check_text : Array (Option Value)} {oc_check_text kV_check_text dc_check_text pm_check_text cd_check_text ct_check_text : Value}
    {f_Text_chars : Addr} {od_Text_chars an_Text_chars : Option Addr} {sl_Text_chars : Array (Option Value)} {oc_Text_chars kV_Text_chars dc_Text_chars pm_Text_chars cd_Text_chars ct_Text_chars : Value}
    {f_text_items : Addr} {od_text_items an_text_items : Option Addr} {sl_text_items : Array (Option Value)} {oc_text_items kV_text_items dc_text_items pm_text_items cd_text_items ct_text_items : Value}
    {f_compare : Addr} {od_compare an_compare : Option Addr} {sl_compare : Array (Option Value)} {oc_compare kV_compare dc_compare pm_compare cd_compare ct_compare : Value}
    {f_l_caught : Addr} {od_l_caught an_l_caught : Option Addr} {sl_l_caught : Array (Option Value)} {oc_l_caught kV_l_caught dc_l_caught pm_l_caught cd_l_caught ct_l_caught : Value}
    {f_l_pair_right : Addr} {od_l_pair_right an_l_pair_right : Option Addr} {sl_l_pair_right : Array (Option Value)} {oc_l_pair_right kV_l_pair_right dc_l_pair_right pm_l_pair_right cd_l_pair_right ct_l_pair_right : Value}
    {f_law : Addr} {od_law an_law : Option Addr} {sl_law : Array (Option Value)} {oc_law kV_law dc_law pm_law cd_law ct_law : Value}
    {C_InvalidChar n_InvalidChar P_InvalidChar : Addr} {nm_InvalidChar q_InvalidChar : Str} {N_InvalidChar : Addr} {bs_InvalidChar : List Value} {sn_InvalidChar : List Str} {sub_InvalidChar : List Value} {ab_InvalidChar : Bool} {col_InvalidChar : Option Bool} {dd_InvalidChar : Option Addr} {m0_InvalidChar m1_InvalidChar m2_InvalidChar m3_InvalidChar m5_InvalidChar : Option Value} {od_InvalidChar an_InvalidChar : Option Addr} {sl_InvalidChar : Array (Option Value)} {oc_InvalidChar kV_InvalidChar dc_InvalidChar pm_InvalidChar cd_InvalidChar ct_InvalidChar : Value}
    {C_InvalidChars n_InvalidChars P_InvalidChars : Addr} {nm_InvalidChars q_InvalidChars : Str} {N_InvalidChars : Addr} {bs_InvalidChars : List Value} {sn_InvalidChars : List Str} {sub_InvalidChars : List Value} {ab_InvalidChars : Bool} {col_InvalidChars : Option Bool} {dd_InvalidChars : Option Addr} {m0_InvalidChars m1_InvalidChars m2_InvalidChars m3_InvalidChars m5_InvalidChars : Option Value} {od_InvalidChars an_InvalidChars : Option Addr} {sl_InvalidChars : Array (Option Value)} {oc_InvalidChars kV_InvalidChars dc_InvalidChars pm_InvalidChars cd_InvalidChars ct_InvalidChars : Value}
    {C_InvalidText n_InvalidText P_InvalidText : Addr} {nm_InvalidText q_InvalidText : Str} {N_InvalidText : Addr} {bs_InvalidText : List Value} {sn_InvalidText : List Str} {sub_InvalidText : List Value} {ab_InvalidText : Bool} {col_InvalidText : Option Bool} {dd_InvalidText : Option Addr} {m0_InvalidText m1_InvalidText m2_InvalidText m3_InvalidText m5_InvalidText : Option Value} {od_InvalidText an_InvalidText : Option Addr} {sl_InvalidText : Array (Option Value)} {oc_InvalidText kV_InvalidText dc_InvalidText pm_InvalidText cd_InvalidText ct_InvalidText : Value}
    {C_InvalidKind n_InvalidKind P_InvalidKind : Addr} {nm_InvalidKind q_InvalidKind : Str} {N_InvalidKind : Addr} {bs_InvalidKind : List Value} {sn_InvalidKind : List Str} {sub_InvalidKind : List Value} {ab_InvalidKind : Bool} {col_InvalidKind : Option Bool} {dd_InvalidKind : Option Addr} {m0_InvalidKind m1_InvalidKind m2_InvalidKind m3_InvalidKind m5_InvalidKind : Option Value} {od_InvalidKind an_InvalidKind : Option Addr} {sl_InvalidKind : Array (Option Value)} {oc_InvalidKind kV_InvalidKind dc_InvalidKind pm_InvalidKind cd_InvalidKind ct_InvalidKind : Value}
    {C_BadPlace n_BadPlace P_BadPlace : Addr} {nm_BadPlace q_BadPlace : Str} {N_BadPlace : Addr} {bs_BadPlace : List Value} {sn_BadPlace : List Str} {sub_BadPlace : List Value} {ab_BadPlace : Bool} {col_BadPlace : Option Bool} {dd_BadPlace : Option Addr} {m0_BadPlace m1_BadPlace m2_BadPlace m3_BadPlace m5_BadPlace : Option Value} {od_BadPlace an_BadPlace : Option Addr} {sl_BadPlace : Array (Option Value)} {oc_BadPlace kV_BadPlace dc_BadPlace pm_BadPlace cd_BadPlace ct_BadPlace : Value}
    {t_LAST_CHAR : Tok}
    {t_FIRST_SURROGATE : Tok}
    {t_LAST_SURROGATE : Tok}
    {t_KINDS : Addr} {dd_KINDS : Option Addr} {n_KINDS : Nat} {sl_KINDS : Array (Option Value)} {k0_KINDS k1_KINDS k2_KINDS : Tok}
    {t_FIRST_WIDE : Tok}
    {t_NEXT_BYTE : Tok}
    {t_BYTE_SHARE : Tok}
    {t_FIRST_BYTES : Addr} {dd_FIRST_BYTES : Option Addr} {n_FIRST_BYTES : Nat} {sl_FIRST_BYTES : Array (Option Value)} {k0_FIRST_BYTES v0_FIRST_BYTES k1_FIRST_BYTES v1_FIRST_BYTES k2_FIRST_BYTES v2_FIRST_BYTES k3_FIRST_BYTES v3_FIRST_BYTES : Tok} {h0_FIRST_BYTES h1_FIRST_BYTES h2_FIRST_BYTES h3_FIRST_BYTES : Int}
    {t_LOW_UNIT : Tok}
    {t_UNIT_SHARE : Tok}
    {t_HIGH_UNIT : Tok}
    (g_Text : PySem.W.nsIn K mainGlobals "Text" = some (some (.ref C_Text)))
    (pg_Text : PySem.W.plainGet K C_Text Str.empty = true)
    (hd_Text : PySem.W.hasDictIn K C_Text = true)
    (po_Text : PySem.W.plainOver K C_Text = true)
    (sa_Text : PySem.W.findIn K (.ref C_Text) "__setattr__" = some (some (.builtin "object.__setattr__")))
    (ca_Text : PySem.W.findIn K (.ref C_Text) "__class__" = some (some (.builtin "object.__class__")))
    (mo_Text : PySem.W.mroIn K C_Text (.type "object") = some true)
    (ic_Text : PySem.W.isClsIn K C_Text = true)
    (tc_Text : PySem.W.typeIn K (.ref C_Text) = some (.type "type"))
    (g_l_bag : PySem.W.nsIn K mainGlobals "_law_bag" = some (some (.ref f_l_bag)))
    (l_l_bag : K.lookup f_l_bag = some ⟨oc_l_bag, od_l_bag, .func (PySem.W.fnOf "_law_bag" "_law_bag" (defArgs s_l_bag) (defBody s_l_bag) (defScope s_l_bag) .none kV_l_bag dc_l_bag pm_l_bag an_l_bag cd_l_bag ct_l_bag), sl_l_bag⟩)
    (c_l_bag : PySem.W.codeIn K cd_l_bag "_law_bag" = true)
    (kp_l_bag : PySem.W.keepIn K (.ref f_l_bag) = true)
    (g_l_cell : PySem.W.nsIn K mainGlobals "_law_cell" = some (some (.ref f_l_cell)))
    (l_l_cell : K.lookup f_l_cell = some ⟨oc_l_cell, od_l_cell, .func (PySem.W.fnOf "_law_cell" "_law_cell" (defArgs s_l_cell) (defBody s_l_cell) (defScope s_l_cell) .none kV_l_cell dc_l_cell pm_l_cell an_l_cell cd_l_cell ct_l_cell), sl_l_cell⟩)
    (c_l_cell : PySem.W.codeIn K cd_l_cell "_law_cell" = true)
    (kp_l_cell : PySem.W.keepIn K (.ref f_l_cell) = true)
    (g_l_take : PySem.W.nsIn K mainGlobals "_law_take" = some (some (.ref f_l_take)))
    (l_l_take : K.lookup f_l_take = some ⟨oc_l_take, od_l_take, .func (PySem.W.fnOf "_law_take" "_law_take" (defArgs s_l_take) (defBody s_l_take) (defScope s_l_take) .none kV_l_take dc_l_take pm_l_take an_l_take cd_l_take ct_l_take), sl_l_take⟩)
    (c_l_take : PySem.W.codeIn K cd_l_take "_law_take" = true)
    (kp_l_take : PySem.W.keepIn K (.ref f_l_take) = true)
    (g_l_char : PySem.W.nsIn K mainGlobals "_law_char" = some (some (.ref f_l_char)))
    (l_l_char : K.lookup f_l_char = some ⟨oc_l_char, od_l_char, .func (PySem.W.fnOf "_law_char" "_law_char" (defArgs s_l_char) (defBody s_l_char) (defScope s_l_char) .none kV_l_char dc_l_char pm_l_char an_l_char cd_l_char ct_l_char), sl_l_char⟩)
    (c_l_char : PySem.W.codeIn K cd_l_char "_law_char" = true)
    (kp_l_char : PySem.W.keepIn K (.ref f_l_char) = true)
    (g_l_chars : PySem.W.nsIn K mainGlobals "_law_chars" = some (some (.ref f_l_chars)))
    (l_l_chars : K.lookup f_l_chars = some ⟨oc_l_chars, od_l_chars, .func (PySem.W.fnOf "_law_chars" "_law_chars" (defArgs s_l_chars) (defBody s_l_chars) (defScope s_l_chars) .none kV_l_chars dc_l_chars pm_l_chars an_l_chars cd_l_chars ct_l_chars), sl_l_chars⟩)
    (c_l_chars : PySem.W.codeIn K cd_l_chars "_law_chars" = true)
    (kp_l_chars : PySem.W.keepIn K (.ref f_l_chars) = true)
    (g_is_list : PySem.W.nsIn K mainGlobals "is_list" = some (some (.ref f_is_list)))
    (l_is_list : K.lookup f_is_list = some ⟨oc_is_list, od_is_list, .func (PySem.W.fnOf "is_list" "is_list" (defArgs s_is_list) (defBody s_is_list) (defScope s_is_list) .none kV_is_list dc_is_list pm_is_list an_is_list cd_is_list ct_is_list), sl_is_list⟩)
    (c_is_list : PySem.W.codeIn K cd_is_list "is_list" = true)
    (kp_is_list : PySem.W.keepIn K (.ref f_is_list) = true)
    (g_is_whole : PySem.W.nsIn K mainGlobals "is_whole" = some (some (.ref f_is_whole)))
    (l_is_whole : K.lookup f_is_whole = some ⟨oc_is_whole, od_is_whole, .func (PySem.W.fnOf "is_whole" "is_whole" (defArgs s_is_whole) (defBody s_is_whole) (defScope s_is_whole) .none kV_is_whole dc_is_whole pm_is_whole an_is_whole cd_is_whole ct_is_whole), sl_is_whole⟩)
    (c_is_whole : PySem.W.codeIn K cd_is_whole "is_whole" = true)
    (kp_is_whole : PySem.W.keepIn K (.ref f_is_whole) = true)
    (g_is_integer : PySem.W.nsIn K mainGlobals "is_integer" = some (some (.ref f_is_integer)))
    (l_is_integer : K.lookup f_is_integer = some ⟨oc_is_integer, od_is_integer, .func (PySem.W.fnOf "is_integer" "is_integer" (defArgs s_is_integer) (defBody s_is_integer) (defScope s_is_integer) .none kV_is_integer dc_is_integer pm_is_integer an_is_integer cd_is_integer ct_is_integer), sl_is_integer⟩)
    (c_is_integer : PySem.W.codeIn K cd_is_integer "is_integer" = true)
    (kp_is_integer : PySem.W.keepIn K (.ref f_is_integer) = true)
    (g_is_char : PySem.W.nsIn K mainGlobals "is_char" = some (some (.ref f_is_char)))
    (l_is_char : K.lookup f_is_char = some ⟨oc_is_char, od_is_char, .func (PySem.W.fnOf "is_char" "is_char" (defArgs s_is_char) (defBody s_is_char) (defScope s_is_char) .none kV_is_char dc_is_char pm_is_char an_is_char cd_is_char ct_is_char), sl_is_char⟩)
    (c_is_char : PySem.W.codeIn K cd_is_char "is_char" = true)
    (kp_is_char : PySem.W.keepIn K (.ref f_is_char) = true)
    (g_check_char : PySem.W.nsIn K mainGlobals "check_char" = some (some (.ref f_check_char)))
    (l_check_char : K.lookup f_check_char = some ⟨oc_check_char, od_check_char, .func (PySem.W.fnOf "check_char" "check_char" (defArgs s_check_char) (defBody s_check_char) (defScope s_check_char) .none kV_check_char dc_check_char pm_check_char an_check_char cd_check_char ct_check_char), sl_check_char⟩)
    (c_check_char : PySem.W.codeIn K cd_check_char "check_char" = true)
    (kp_check_char : PySem.W.keepIn K (.ref f_check_char) = true)
    (g_check_chars : PySem.W.nsIn K mainGlobals "check_chars" = some (some (.ref f_check_chars)))
    (l_check_chars : K.lookup f_check_chars = some ⟨oc_check_chars, od_check_chars, .func (PySem.W.fnOf "check_chars" "check_chars" (defArgs s_check_chars) (defBody s_check_chars) (defScope s_check_chars) .none kV_check_chars dc_check_chars pm_check_chars an_check_chars cd_check_chars ct_check_chars), sl_check_chars⟩)
    (c_check_chars : PySem.W.codeIn K cd_check_chars "check_chars" = true)
    (kp_check_chars : PySem.W.keepIn K (.ref f_check_chars) = true)
    (fa_Text_init : PySem.W.findIn K (.ref C_Text) "__init__" = some (some (.ref f_Text_init)))
    (if_Text_init : PySem.W.isFn K (.ref f_Text_init) = true)
    (l_Text_init : K.lookup f_Text_init = some ⟨oc_Text_init, od_Text_init, .func (PySem.W.fnOf "__init__" "Text.__init__" (defArgs s_Text_init) (defBody s_Text_init) (defScope s_Text_init) .none kV_Text_init dc_Text_init pm_Text_init an_Text_init cd_Text_init ct_Text_init), sl_Text_init⟩)
    (c_Text_init : PySem.W.codeIn K cd_Text_init "Text.__init__" = true)
    (kp_Text_init : PySem.W.keepIn K (.ref f_Text_init) = true)
    (mk_Text : PySem.W.makesIn K C_Text = true)
    (kc_Text : PySem.W.keepIn K (.ref C_Text) = true)
    (fa_Text_gt : PySem.W.findIn K (.ref C_Text) "__gt__" = some (some (.ref f_Text_gt)))
    (if_Text_gt : PySem.W.isFn K (.ref f_Text_gt) = true)
    (l_Text_gt : K.lookup f_Text_gt = some ⟨oc_Text_gt, od_Text_gt, .func (PySem.W.fnOf "__gt__" "Text.__gt__" (defArgs s_Text_gt) (defBody s_Text_gt) (defScope s_Text_gt) .none kV_Text_gt dc_Text_gt pm_Text_gt an_Text_gt cd_Text_gt ct_Text_gt), sl_Text_gt⟩)
    (c_Text_gt : PySem.W.codeIn K cd_Text_gt "Text.__gt__" = true)
    (kp_Text_gt : PySem.W.keepIn K (.ref f_Text_gt) = true)
    (fa_Text_lt : PySem.W.findIn K (.ref C_Text) "__lt__" = some (some (.ref f_Text_lt)))
    (if_Text_lt : PySem.W.isFn K (.ref f_Text_lt) = true)
    (l_Text_lt : K.lookup f_Text_lt = some ⟨oc_Text_lt, od_Text_lt, .func (PySem.W.fnOf "__lt__" "Text.__lt__" (defArgs s_Text_lt) (defBody s_Text_lt) (defScope s_Text_lt) .none kV_Text_lt dc_Text_lt pm_Text_lt an_Text_lt cd_Text_lt ct_Text_lt), sl_Text_lt⟩)
    (c_Text_lt : PySem.W.codeIn K cd_Text_lt "Text.__lt__" = true)
    (kp_Text_lt : PySem.W.keepIn K (.ref f_Text_lt) = true)
    (g_l_sign : PySem.W.nsIn K mainGlobals "_law_sign" = some (some (.ref f_l_sign)))
    (l_l_sign : K.lookup f_l_sign = some ⟨oc_l_sign, od_l_sign, .func (PySem.W.fnOf "_law_sign" "_law_sign" (defArgs s_l_sign) (defBody s_l_sign) (defScope s_l_sign) .none kV_l_sign dc_l_sign pm_l_sign an_l_sign cd_l_sign ct_l_sign), sl_l_sign⟩)
    (c_l_sign : PySem.W.codeIn K cd_l_sign "_law_sign" = true)
    (kp_l_sign : PySem.W.keepIn K (.ref f_l_sign) = true)
    (g_is_kind : PySem.W.nsIn K mainGlobals "is_kind" = some (some (.ref f_is_kind)))
    (l_is_kind : K.lookup f_is_kind = some ⟨oc_is_kind, od_is_kind, .func (PySem.W.fnOf "is_kind" "is_kind" (defArgs s_is_kind) (defBody s_is_kind) (defScope s_is_kind) .none kV_is_kind dc_is_kind pm_is_kind an_is_kind cd_is_kind ct_is_kind), sl_is_kind⟩)
    (c_is_kind : PySem.W.codeIn K cd_is_kind "is_kind" = true)
    (kp_is_kind : PySem.W.keepIn K (.ref f_is_kind) = true)
    (g_check_kind : PySem.W.nsIn K mainGlobals "check_kind" = some (some (.ref f_check_kind)))
    (l_check_kind : K.lookup f_check_kind = some ⟨oc_check_kind, od_check_kind, .func (PySem.W.fnOf "check_kind" "check_kind" (defArgs s_check_kind) (defBody s_check_kind) (defScope s_check_kind) .none kV_check_kind dc_check_kind pm_check_kind an_check_kind cd_check_kind ct_check_kind), sl_check_kind⟩)
    (c_check_kind : PySem.W.codeIn K cd_check_kind "check_kind" = true)
    (kp_check_kind : PySem.W.keepIn K (.ref f_check_kind) = true)
    (g_byte_width : PySem.W.nsIn K mainGlobals "byte_width" = some (some (.ref f_byte_width)))
    (l_byte_width : K.lookup f_byte_width = some ⟨oc_byte_width, od_byte_width, .func (PySem.W.fnOf "byte_width" "byte_width" (defArgs s_byte_width) (defBody s_byte_width) (defScope s_byte_width) .none kV_byte_width dc_byte_width pm_byte_width an_byte_width cd_byte_width ct_byte_width), sl_byte_width⟩)
    (c_byte_width : PySem.W.codeIn K cd_byte_width "byte_width" = true)
    (kp_byte_width : PySem.W.keepIn K (.ref f_byte_width) = true)
    (g_byte_items : PySem.W.nsIn K mainGlobals "byte_items" = some (some (.ref f_byte_items)))
    (l_byte_items : K.lookup f_byte_items = some ⟨oc_byte_items, od_byte_items, .func (PySem.W.fnOf "byte_items" "byte_items" (defArgs s_byte_items) (defBody s_byte_items) (defScope s_byte_items) .none kV_byte_items dc_byte_items pm_byte_items an_byte_items cd_byte_items ct_byte_items), sl_byte_items⟩)
    (c_byte_items : PySem.W.codeIn K cd_byte_items "byte_items" = true)
    (kp_byte_items : PySem.W.keepIn K (.ref f_byte_items) = true)
    (g_unit_items : PySem.W.nsIn K mainGlobals "unit_items" = some (some (.ref f_unit_items)))
    (l_unit_items : K.lookup f_unit_items = some ⟨oc_unit_items, od_unit_items, .func (PySem.W.fnOf "unit_items" "unit_items" (defArgs s_unit_items) (defBody s_unit_items) (defScope s_unit_items) .none kV_unit_items dc_unit_items pm_unit_items an_unit_items cd_unit_items ct_unit_items), sl_unit_items⟩)
    (c_unit_items : PySem.W.codeIn K cd_unit_items "unit_items" = true)
    (kp_unit_items : PySem.W.keepIn K (.ref f_unit_items) = true)
    (g_char_items : PySem.W.nsIn K mainGlobals "char_items" = some (some (.ref f_char_items)))
    (l_char_items : K.lookup f_char_items = some ⟨oc_char_items, od_char_items, .func (PySem.W.fnOf "char_items" "char_items" (defArgs s_char_items) (defBody s_char_items) (defScope s_char_items) .none kV_char_items dc_char_items pm_char_items an_char_items cd_char_items ct_char_items), sl_char_items⟩)
    (c_char_items : PySem.W.codeIn K cd_char_items "char_items" = true)
    (kp_char_items : PySem.W.keepIn K (.ref f_char_items) = true)
    (g_items : PySem.W.nsIn K mainGlobals "items" = some (some (.ref f_items)))
    (l_items : K.lookup f_items = some ⟨oc_items, od_items, .func (PySem.W.fnOf "items" "items" (defArgs s_items) (defBody s_items) (defScope s_items) .none kV_items dc_items pm_items an_items cd_items ct_items), sl_items⟩)
    (c_items : PySem.W.codeIn K cd_items "items" = true)
    (kp_items : PySem.W.keepIn K (.ref f_items) = true)
    (g_l_all : PySem.W.nsIn K mainGlobals "_law_all" = some (some (.ref f_l_all)))
    (l_l_all : K.lookup f_l_all = some ⟨oc_l_all, od_l_all, .func (PySem.W.fnOf "_law_all" "_law_all" (defArgs s_l_all) (defBody s_l_all) (defScope s_l_all) .none kV_l_all dc_l_all pm_l_all an_l_all cd_l_all ct_l_all), sl_l_all⟩)
    (c_l_all : PySem.W.codeIn K cd_l_all "_law_all" = true)
    (kp_l_all : PySem.W.keepIn K (.ref f_l_all) = true)
    (g_check_text : PySem.W.nsIn K mainGlobals "check_text" = some (some (.ref f_check_text)))
    (l_check_text : K.lookup f_check_text = some ⟨oc_check_text, od_check_text, .func (PySem.W.fnOf "check_text" "check_text" (defArgs s_check_text) (defBody s_check_text) (defScope s_check_text) .none kV_check_text dc_check_text pm_check_text an_check_text cd_check_text ct_check_text), sl_check_text⟩)
    (c_check_text : PySem.W.codeIn K cd_check_text "check_text" = true)
    (kp_check_text : PySem.W.keepIn K (.ref f_check_text) = true)
    (fa_Text_chars : PySem.W.findIn K (.ref C_Text) "chars" = some (some (.ref f_Text_chars)))
    (if_Text_chars : PySem.W.isFn K (.ref f_Text_chars) = true)
    (l_Text_chars : K.lookup f_Text_chars = some ⟨oc_Text_chars, od_Text_chars, .func (PySem.W.fnOf "chars" "Text.chars" (defArgs s_Text_chars) (defBody s_Text_chars) (defScope s_Text_chars) .none kV_Text_chars dc_Text_chars pm_Text_chars an_Text_chars cd_Text_chars ct_Text_chars), sl_Text_chars⟩)
    (c_Text_chars : PySem.W.codeIn K cd_Text_chars "Text.chars" = true)
    (kp_Text_chars : PySem.W.keepIn K (.ref f_Text_chars) = true)
    (g_text_items : PySem.W.nsIn K mainGlobals "text_items" = some (some (.ref f_text_items)))
    (l_text_items : K.lookup f_text_items = some ⟨oc_text_items, od_text_items, .func (PySem.W.fnOf "text_items" "text_items" (defArgs s_text_items) (defBody s_text_items) (defScope s_text_items) .none kV_text_items dc_text_items pm_text_items an_text_items cd_text_items ct_text_items), sl_text_items⟩)
    (c_text_items : PySem.W.codeIn K cd_text_items "text_items" = true)
    (kp_text_items : PySem.W.keepIn K (.ref f_text_items) = true)
    (g_compare : PySem.W.nsIn K mainGlobals "compare" = some (some (.ref f_compare)))
    (l_compare : K.lookup f_compare = some ⟨oc_compare, od_compare, .func (PySem.W.fnOf "compare" "compare" (defArgs s_compare) (defBody s_compare) (defScope s_compare) .none kV_compare dc_compare pm_compare an_compare cd_compare ct_compare), sl_compare⟩)
    (c_compare : PySem.W.codeIn K cd_compare "compare" = true)
    (kp_compare : PySem.W.keepIn K (.ref f_compare) = true)
    (g_l_caught : PySem.W.nsIn K mainGlobals "_law_caught" = some (some (.ref f_l_caught)))
    (l_l_caught : K.lookup f_l_caught = some ⟨oc_l_caught, od_l_caught, .func (PySem.W.fnOf "_law_caught" "_law_caught" (defArgs s_l_caught) (defBody s_l_caught) (defScope s_l_caught) .none kV_l_caught dc_l_caught pm_l_caught an_l_caught cd_l_caught ct_l_caught), sl_l_caught⟩)
    (c_l_caught : PySem.W.codeIn K cd_l_caught "_law_caught" = true)
    (kp_l_caught : PySem.W.keepIn K (.ref f_l_caught) = true)
    (g_l_pair_right : PySem.W.nsIn K mainGlobals "_law_pair_right" = some (some (.ref f_l_pair_right)))
    (l_l_pair_right : K.lookup f_l_pair_right = some ⟨oc_l_pair_right, od_l_pair_right, .func (PySem.W.fnOf "_law_pair_right" "_law_pair_right" (defArgs s_l_pair_right) (defBody s_l_pair_right) (defScope s_l_pair_right) .none kV_l_pair_right dc_l_pair_right pm_l_pair_right an_l_pair_right cd_l_pair_right ct_l_pair_right), sl_l_pair_right⟩)
    (c_l_pair_right : PySem.W.codeIn K cd_l_pair_right "_law_pair_right" = true)
    (kp_l_pair_right : PySem.W.keepIn K (.ref f_l_pair_right) = true)
    (g_law : PySem.W.nsIn K mainGlobals "law" = some (some (.ref f_law)))
    (l_law : K.lookup f_law = some ⟨oc_law, od_law, .func (PySem.W.fnOf "law" "law" (defArgs s_law) (defBody s_law) (defScope s_law) .none kV_law dc_law pm_law an_law cd_law ct_law), sl_law⟩)
    (c_law : PySem.W.codeIn K cd_law "law" = true)
    (kp_law : PySem.W.keepIn K (.ref f_law) = true)
    (g_InvalidChar : PySem.W.nsIn K mainGlobals "InvalidChar" = some (some (.ref C_InvalidChar)))
    (xL_InvalidChar : K.lookup C_InvalidChar = some (excClassObj nm_InvalidChar q_InvalidChar C_InvalidChar N_InvalidChar bs_InvalidChar [.ref P_InvalidChar, .type "ValueError", .type "Exception", .type "BaseException", .type "object"] true sn_InvalidChar sub_InvalidChar ab_InvalidChar col_InvalidChar dd_InvalidChar m0_InvalidChar m1_InvalidChar m2_InvalidChar m3_InvalidChar m5_InvalidChar "ValueError.__new__"))
    (sa_InvalidChar : PySem.W.findIn K (.ref C_InvalidChar) "__setattr__" = some (some (.builtin "object.__setattr__")))
    (ga_InvalidChar : PySem.W.findIn K (.ref C_InvalidChar) "__getattribute__" = some (some (.builtin "BaseException.__getattribute__")))
    (gg_InvalidChar : PySem.W.findIn K (.ref C_InvalidChar) "__getattr__" = some none)
    (v_InvalidChar_value : PySem.W.findIn K (.ref C_InvalidChar) "value" = some none)
    (in_InvalidChar : PySem.W.findIn K (.ref C_InvalidChar) "__init__" = some (some (.ref n_InvalidChar)))
    (ti_InvalidChar : PySem.W.typeIn K (.ref n_InvalidChar) = some (.type "function"))
    (li_InvalidChar : K.lookup n_InvalidChar = some ⟨oc_InvalidChar, od_InvalidChar, .func (PySem.W.fnOf "__init__" "InvalidChar.__init__" (defArgs s_InvalidChar) (defBody s_InvalidChar) (defScope s_InvalidChar) .none kV_InvalidChar dc_InvalidChar pm_InvalidChar an_InvalidChar cd_InvalidChar ct_InvalidChar), sl_InvalidChar⟩)
    (ci_InvalidChar : PySem.W.codeIn K cd_InvalidChar "InvalidChar.__init__" = true)
    (ki_InvalidChar : PySem.W.keepIn K (.ref n_InvalidChar) = true)
    (kC_InvalidChar : PySem.W.keepIn K (.ref C_InvalidChar) = true)
    (eC_InvalidChar : PySem.W.subIn K (.ref C_InvalidChar) (.type "BaseException") = some true)
    (tC_InvalidChar : PySem.W.typeIn K (.ref C_InvalidChar) = some (.type "type"))
    (hC_InvalidChar : PySem.W.hasDictIn K C_InvalidChar = true)
    (iC_InvalidChar : PySem.W.isClsIn K C_InvalidChar = true)
    (g_InvalidChars : PySem.W.nsIn K mainGlobals "InvalidChars" = some (some (.ref C_InvalidChars)))
    (xL_InvalidChars : K.lookup C_InvalidChars = some (excClassObj nm_InvalidChars q_InvalidChars C_InvalidChars N_InvalidChars bs_InvalidChars [.ref P_InvalidChars, .type "ValueError", .type "Exception", .type "BaseException", .type "object"] true sn_InvalidChars sub_InvalidChars ab_InvalidChars col_InvalidChars dd_InvalidChars m0_InvalidChars m1_InvalidChars m2_InvalidChars m3_InvalidChars m5_InvalidChars "ValueError.__new__"))
    (sa_InvalidChars : PySem.W.findIn K (.ref C_InvalidChars) "__setattr__" = some (some (.builtin "object.__setattr__")))
    (ga_InvalidChars : PySem.W.findIn K (.ref C_InvalidChars) "__getattribute__" = some (some (.builtin "BaseException.__getattribute__")))
    (gg_InvalidChars : PySem.W.findIn K (.ref C_InvalidChars) "__getattr__" = some none)
    (v_InvalidChars_value : PySem.W.findIn K (.ref C_InvalidChars) "value" = some none)
    (in_InvalidChars : PySem.W.findIn K (.ref C_InvalidChars) "__init__" = some (some (.ref n_InvalidChars)))
    (ti_InvalidChars : PySem.W.typeIn K (.ref n_InvalidChars) = some (.type "function"))
    (li_InvalidChars : K.lookup n_InvalidChars = some ⟨oc_InvalidChars, od_InvalidChars, .func (PySem.W.fnOf "__init__" "InvalidChars.__init__" (defArgs s_InvalidChars) (defBody s_InvalidChars) (defScope s_InvalidChars) .none kV_InvalidChars dc_InvalidChars pm_InvalidChars an_InvalidChars cd_InvalidChars ct_InvalidChars), sl_InvalidChars⟩)
    (ci_InvalidChars : PySem.W.codeIn K cd_InvalidChars "InvalidChars.__init__" = true)
    (ki_InvalidChars : PySem.W.keepIn K (.ref n_InvalidChars) = true)
    (kC_InvalidChars : PySem.W.keepIn K (.ref C_InvalidChars) = true)
    (eC_InvalidChars : PySem.W.subIn K (.ref C_InvalidChars) (.type "BaseException") = some true)
    (tC_InvalidChars : PySem.W.typeIn K (.ref C_InvalidChars) = some (.type "type"))
    (hC_InvalidChars : PySem.W.hasDictIn K C_InvalidChars = true)
    (iC_InvalidChars : PySem.W.isClsIn K C_InvalidChars = true)
    (g_InvalidText : PySem.W.nsIn K mainGlobals "InvalidText" = some (some (.ref C_InvalidText)))
    (xL_InvalidText : K.lookup C_InvalidText = some (excClassObj nm_InvalidText q_InvalidText C_InvalidText N_InvalidText bs_InvalidText [.ref P_InvalidText, .type "ValueError", .type "Exception", .type "BaseException", .type "object"] true sn_InvalidText sub_InvalidText ab_InvalidText col_InvalidText dd_InvalidText m0_InvalidText m1_InvalidText m2_InvalidText m3_InvalidText m5_InvalidText "ValueError.__new__"))
    (sa_InvalidText : PySem.W.findIn K (.ref C_InvalidText) "__setattr__" = some (some (.builtin "object.__setattr__")))
    (ga_InvalidText : PySem.W.findIn K (.ref C_InvalidText) "__getattribute__" = some (some (.builtin "BaseException.__getattribute__")))
    (gg_InvalidText : PySem.W.findIn K (.ref C_InvalidText) "__getattr__" = some none)
    (v_InvalidText_value : PySem.W.findIn K (.ref C_InvalidText) "value" = some none)
    (in_InvalidText : PySem.W.findIn K (.ref C_InvalidText) "__init__" = some (some (.ref n_InvalidText)))
    (ti_InvalidText : PySem.W.typeIn K (.ref n_InvalidText) = some (.type "function"))
    (li_InvalidText : K.lookup n_InvalidText = some ⟨oc_InvalidText, od_InvalidText, .func (PySem.W.fnOf "__init__" "InvalidText.__init__" (defArgs s_InvalidText) (defBody s_InvalidText) (defScope s_InvalidText) .none kV_InvalidText dc_InvalidText pm_InvalidText an_InvalidText cd_InvalidText ct_InvalidText), sl_InvalidText⟩)
    (ci_InvalidText : PySem.W.codeIn K cd_InvalidText "InvalidText.__init__" = true)
    (ki_InvalidText : PySem.W.keepIn K (.ref n_InvalidText) = true)
    (kC_InvalidText : PySem.W.keepIn K (.ref C_InvalidText) = true)
    (eC_InvalidText : PySem.W.subIn K (.ref C_InvalidText) (.type "BaseException") = some true)
    (tC_InvalidText : PySem.W.typeIn K (.ref C_InvalidText) = some (.type "type"))
    (hC_InvalidText : PySem.W.hasDictIn K C_InvalidText = true)
    (iC_InvalidText : PySem.W.isClsIn K C_InvalidText = true)
    (g_InvalidKind : PySem.W.nsIn K mainGlobals "InvalidKind" = some (some (.ref C_InvalidKind)))
    (xL_InvalidKind : K.lookup C_InvalidKind = some (excClassObj nm_InvalidKind q_InvalidKind C_InvalidKind N_InvalidKind bs_InvalidKind [.ref P_InvalidKind, .type "ValueError", .type "Exception", .type "BaseException", .type "object"] true sn_InvalidKind sub_InvalidKind ab_InvalidKind col_InvalidKind dd_InvalidKind m0_InvalidKind m1_InvalidKind m2_InvalidKind m3_InvalidKind m5_InvalidKind "ValueError.__new__"))
    (sa_InvalidKind : PySem.W.findIn K (.ref C_InvalidKind) "__setattr__" = some (some (.builtin "object.__setattr__")))
    (ga_InvalidKind : PySem.W.findIn K (.ref C_InvalidKind) "__getattribute__" = some (some (.builtin "BaseException.__getattribute__")))
    (gg_InvalidKind : PySem.W.findIn K (.ref C_InvalidKind) "__getattr__" = some none)
    (v_InvalidKind_value : PySem.W.findIn K (.ref C_InvalidKind) "value" = some none)
    (in_InvalidKind : PySem.W.findIn K (.ref C_InvalidKind) "__init__" = some (some (.ref n_InvalidKind)))
    (ti_InvalidKind : PySem.W.typeIn K (.ref n_InvalidKind) = some (.type "function"))
    (li_InvalidKind : K.lookup n_InvalidKind = some ⟨oc_InvalidKind, od_InvalidKind, .func (PySem.W.fnOf "__init__" "InvalidKind.__init__" (defArgs s_InvalidKind) (defBody s_InvalidKind) (defScope s_InvalidKind) .none kV_InvalidKind dc_InvalidKind pm_InvalidKind an_InvalidKind cd_InvalidKind ct_InvalidKind), sl_InvalidKind⟩)
    (ci_InvalidKind : PySem.W.codeIn K cd_InvalidKind "InvalidKind.__init__" = true)
    (ki_InvalidKind : PySem.W.keepIn K (.ref n_InvalidKind) = true)
    (kC_InvalidKind : PySem.W.keepIn K (.ref C_InvalidKind) = true)
    (eC_InvalidKind : PySem.W.subIn K (.ref C_InvalidKind) (.type "BaseException") = some true)
    (tC_InvalidKind : PySem.W.typeIn K (.ref C_InvalidKind) = some (.type "type"))
    (hC_InvalidKind : PySem.W.hasDictIn K C_InvalidKind = true)
    (iC_InvalidKind : PySem.W.isClsIn K C_InvalidKind = true)
    (g_BadPlace : PySem.W.nsIn K mainGlobals "BadPlace" = some (some (.ref C_BadPlace)))
    (xL_BadPlace : K.lookup C_BadPlace = some (excClassObj nm_BadPlace q_BadPlace C_BadPlace N_BadPlace bs_BadPlace [.ref P_BadPlace, .type "ValueError", .type "Exception", .type "BaseException", .type "object"] true sn_BadPlace sub_BadPlace ab_BadPlace col_BadPlace dd_BadPlace m0_BadPlace m1_BadPlace m2_BadPlace m3_BadPlace m5_BadPlace "ValueError.__new__"))
    (sa_BadPlace : PySem.W.findIn K (.ref C_BadPlace) "__setattr__" = some (some (.builtin "object.__setattr__")))
    (ga_BadPlace : PySem.W.findIn K (.ref C_BadPlace) "__getattribute__" = some (some (.builtin "BaseException.__getattribute__")))
    (gg_BadPlace : PySem.W.findIn K (.ref C_BadPlace) "__getattr__" = some none)
    (v_BadPlace_number : PySem.W.findIn K (.ref C_BadPlace) "number" = some none)
    (in_BadPlace : PySem.W.findIn K (.ref C_BadPlace) "__init__" = some (some (.ref n_BadPlace)))
    (ti_BadPlace : PySem.W.typeIn K (.ref n_BadPlace) = some (.type "function"))
    (li_BadPlace : K.lookup n_BadPlace = some ⟨oc_BadPlace, od_BadPlace, .func (PySem.W.fnOf "__init__" "BadPlace.__init__" (defArgs s_BadPlace) (defBody s_BadPlace) (defScope s_BadPlace) .none kV_BadPlace dc_BadPlace pm_BadPlace an_BadPlace cd_BadPlace ct_BadPlace), sl_BadPlace⟩)
    (ci_BadPlace : PySem.W.codeIn K cd_BadPlace "BadPlace.__init__" = true)
    (ki_BadPlace : PySem.W.keepIn K (.ref n_BadPlace) = true)
    (kC_BadPlace : PySem.W.keepIn K (.ref C_BadPlace) = true)
    (eC_BadPlace : PySem.W.subIn K (.ref C_BadPlace) (.type "BaseException") = some true)
    (tC_BadPlace : PySem.W.typeIn K (.ref C_BadPlace) = some (.type "type"))
    (hC_BadPlace : PySem.W.hasDictIn K C_BadPlace = true)
    (iC_BadPlace : PySem.W.isClsIn K C_BadPlace = true)
    (s_InvalidChar_InvalidKind : PySem.W.subIn K (.ref C_InvalidChar) (.ref C_InvalidKind) = some false)
    (s_InvalidChars_InvalidKind : PySem.W.subIn K (.ref C_InvalidChars) (.ref C_InvalidKind) = some false)
    (s_InvalidText_InvalidKind : PySem.W.subIn K (.ref C_InvalidText) (.ref C_InvalidKind) = some false)
    (s_InvalidKind_InvalidKind : PySem.W.subIn K (.ref C_InvalidKind) (.ref C_InvalidKind) = some true)
    (s_BadPlace_InvalidKind : PySem.W.subIn K (.ref C_BadPlace) (.ref C_InvalidKind) = some false)
    (s_InvalidChar_InvalidText : PySem.W.subIn K (.ref C_InvalidChar) (.ref C_InvalidText) = some false)
    (s_InvalidChars_InvalidText : PySem.W.subIn K (.ref C_InvalidChars) (.ref C_InvalidText) = some false)
    (s_InvalidText_InvalidText : PySem.W.subIn K (.ref C_InvalidText) (.ref C_InvalidText) = some true)
    (s_InvalidKind_InvalidText : PySem.W.subIn K (.ref C_InvalidKind) (.ref C_InvalidText) = some false)
    (s_BadPlace_InvalidText : PySem.W.subIn K (.ref C_BadPlace) (.ref C_InvalidText) = some false)
    (cn_cl : PySem.W.specialIn K (.builtin "object.__class__") "__get__" = some (some (.builtin "getset_descriptor.__get__")))
    (ct_cl : PySem.W.takesIn K (.builtin "object.__class__") = some true)
    (n_Text_points : PySem.W.findIn K (.ref C_Text) "points" = some none)
    (nea_Text : PySem.W.findIn K (.ref C_Text) "__ne__" = some (some (.builtin "object.__ne__")))
    (sb_Text_NoneType : PySem.W.subIn K (.type "NoneType") (.ref C_Text) = some false)
    (sb_Text_bool : PySem.W.subIn K (.type "bool") (.ref C_Text) = some false)
    (sb_Text_int : PySem.W.subIn K (.type "int") (.ref C_Text) = some false)
    (sb_Text_str : PySem.W.subIn K (.type "str") (.ref C_Text) = some false)
    (sb_Text_list : PySem.W.subIn K (.type "list") (.ref C_Text) = some false)
    (sb_Text_tuple : PySem.W.subIn K (.type "tuple") (.ref C_Text) = some false)
    (sb_Text_dict : PySem.W.subIn K (.type "dict") (.ref C_Text) = some false)
    (su_Text_bool : PySem.W.subIn K (.ref C_Text) (.type "bool") = some false)
    (su_Text_int : PySem.W.subIn K (.ref C_Text) (.type "int") = some false)
    (su_Text_list : PySem.W.subIn K (.ref C_Text) (.type "list") = some false)
    (su_Text_str : PySem.W.subIn K (.ref C_Text) (.type "str") = some false)
    (su_Text_tuple : PySem.W.subIn K (.ref C_Text) (.type "tuple") = some false)
    (v_LAST_CHAR : PySem.W.nsIn K mainGlobals "LAST_CHAR" = some (some (.int 1114111 t_LAST_CHAR)))
    (v_FIRST_SURROGATE : PySem.W.nsIn K mainGlobals "FIRST_SURROGATE" = some (some (.int 55296 t_FIRST_SURROGATE)))
    (v_LAST_SURROGATE : PySem.W.nsIn K mainGlobals "LAST_SURROGATE" = some (some (.int 57343 t_LAST_SURROGATE)))
    (g_KINDS : PySem.W.nsIn K mainGlobals "KINDS" = some (some (.ref t_KINDS)))
    (l_KINDS : K.lookup t_KINDS = some ⟨.type "tuple", dd_KINDS, .seq #[.str "bytes" k0_KINDS, .str "units" k1_KINDS, .str "chars" k2_KINDS] n_KINDS, sl_KINDS⟩)
    (v_FIRST_WIDE : PySem.W.nsIn K mainGlobals "FIRST_WIDE" = some (some (.int 65536 t_FIRST_WIDE)))
    (v_NEXT_BYTE : PySem.W.nsIn K mainGlobals "NEXT_BYTE" = some (some (.int 128 t_NEXT_BYTE)))
    (v_BYTE_SHARE : PySem.W.nsIn K mainGlobals "BYTE_SHARE" = some (some (.int 64 t_BYTE_SHARE)))
    (g_FIRST_BYTES : PySem.W.nsIn K mainGlobals "FIRST_BYTES" = some (some (.ref t_FIRST_BYTES)))
    (l_FIRST_BYTES : K.lookup t_FIRST_BYTES = some ⟨.type "dict", dd_FIRST_BYTES, .dict #[⟨h0_FIRST_BYTES, .int 1 k0_FIRST_BYTES, .int 0 v0_FIRST_BYTES⟩, ⟨h1_FIRST_BYTES, .int 2 k1_FIRST_BYTES, .int 192 v1_FIRST_BYTES⟩, ⟨h2_FIRST_BYTES, .int 3 k2_FIRST_BYTES, .int 224 v2_FIRST_BYTES⟩, ⟨h3_FIRST_BYTES, .int 4 k3_FIRST_BYTES, .int 240 v3_FIRST_BYTES⟩] n_FIRST_BYTES, sl_FIRST_BYTES⟩)
    (hh0_FIRST_BYTES : h0_FIRST_BYTES = hashInt 1)
    (hh1_FIRST_BYTES : h1_FIRST_BYTES = hashInt 2)
    (hh2_FIRST_BYTES : h2_FIRST_BYTES = hashInt 3)
    (hh3_FIRST_BYTES : h3_FIRST_BYTES = hashInt 4)
    (v_LOW_UNIT : PySem.W.nsIn K mainGlobals "LOW_UNIT" = some (some (.int 56320 t_LOW_UNIT)))
    (v_UNIT_SHARE : PySem.W.nsIn K mainGlobals "UNIT_SHARE" = some (some (.int 1024 t_UNIT_SHARE)))
    (v_HIGH_UNIT : PySem.W.nsIn K mainGlobals "HIGH_UNIT" = some (some (.int 55296 t_HIGH_UNIT)))
    (z_len : PySem.W.nsIn K mainGlobals "len" = some none)
    (z_min : PySem.W.nsIn K mainGlobals "min" = some none)
    (z_max : PySem.W.nsIn K mainGlobals "max" = some none)
    (z_range : PySem.W.nsIn K mainGlobals "range" = some none)
    (z_isinstance : PySem.W.nsIn K mainGlobals "isinstance" = some none)
    (z_list : PySem.W.nsIn K mainGlobals "list" = some none)
    (z_tuple : PySem.W.nsIn K mainGlobals "tuple" = some none)
    (z_bool : PySem.W.nsIn K mainGlobals "bool" = some none)
    (z_int : PySem.W.nsIn K mainGlobals "int" = some none)
    (z_repr : PySem.W.nsIn K mainGlobals "repr" = some none)
    (z_str : PySem.W.nsIn K mainGlobals "str" = some none) :
    ∃ A : Ads, A.a_law = fa ∧ Txt K mg A ∧ ∀ (s : Shared) (v : Value), BindsTo s A.d_law ⟨[v], []⟩ [("_law_script", v)] := by
  have F_l_bag := fun_mk (st := s_l_bag) l_l_bag c_l_bag kp_l_bag
  have F_l_cell := fun_mk (st := s_l_cell) l_l_cell c_l_cell kp_l_cell
  have F_l_take := fun_mk (st := s_l_take) l_l_take c_l_take kp_l_take
  have F_l_char := fun_mk (st := s_l_char) l_l_char c_l_char kp_l_char
  have F_l_chars := fun_mk (st := s_l_chars) l_l_chars c_l_chars kp_l_chars
  have F_is_list := fun_mk (st := s_is_list) l_is_list c_is_list kp_is_list
  have F_is_whole := fun_mk (st := s_is_whole) l_is_whole c_is_whole kp_is_whole
  have F_is_integer := fun_mk (st := s_is_integer) l_is_integer c_is_integer kp_is_integer
  have F_is_char := fun_mk (st := s_is_char) l_is_char c_is_char kp_is_char
  have F_check_char := fun_mk (st := s_check_char) l_check_char c_check_char kp_check_char
  have F_check_chars := fun_mk (st := s_check_chars) l_check_chars c_check_chars kp_check_chars
  have F_Text_init := fun_mk (st := s_Text_init) l_Text_init c_Text_init kp_Text_init
  have F_Text_gt := fun_mk (st := s_Text_gt) l_Text_gt c_Text_gt kp_Text_gt
  have F_Text_lt := fun_mk (st := s_Text_lt) l_Text_lt c_Text_lt kp_Text_lt
  have F_l_sign := fun_mk (st := s_l_sign) l_l_sign c_l_sign kp_l_sign
  have F_is_kind := fun_mk (st := s_is_kind) l_is_kind c_is_kind kp_is_kind
  have F_check_kind := fun_mk (st := s_check_kind) l_check_kind c_check_kind kp_check_kind
  have F_byte_width := fun_mk (st := s_byte_width) l_byte_width c_byte_width kp_byte_width
  have F_byte_items := fun_mk (st := s_byte_items) l_byte_items c_byte_items kp_byte_items
  have F_unit_items := fun_mk (st := s_unit_items) l_unit_items c_unit_items kp_unit_items
  have F_char_items := fun_mk (st := s_char_items) l_char_items c_char_items kp_char_items
  have F_items := fun_mk (st := s_items) l_items c_items kp_items
  have F_l_all := fun_mk (st := s_l_all) l_l_all c_l_all kp_l_all
  have F_check_text := fun_mk (st := s_check_text) l_check_text c_check_text kp_check_text
  have F_Text_chars := fun_mk (st := s_Text_chars) l_Text_chars c_Text_chars kp_Text_chars
  have F_text_items := fun_mk (st := s_text_items) l_text_items c_text_items kp_text_items
  have F_compare := fun_mk (st := s_compare) l_compare c_compare kp_compare
  have F_l_caught := fun_mk (st := s_l_caught) l_l_caught c_l_caught kp_l_caught
  have F_l_pair_right := fun_mk (st := s_l_pair_right) l_l_pair_right c_l_pair_right kp_l_pair_right
  have F_law := fun_mk (st := s_law) l_law c_law kp_law
  have F_InvalidChar := fun_mk (st := s_InvalidChar) li_InvalidChar ci_InvalidChar ki_InvalidChar
  have F_InvalidChars := fun_mk (st := s_InvalidChars) li_InvalidChars ci_InvalidChars ki_InvalidChars
  have F_InvalidText := fun_mk (st := s_InvalidText) li_InvalidText ci_InvalidText ki_InvalidText
  have F_InvalidKind := fun_mk (st := s_InvalidKind) li_InvalidKind ci_InvalidKind ki_InvalidKind
  have F_BadPlace := fun_mk (st := s_BadPlace) li_BadPlace ci_BadPlace ki_BadPlace
  have e := hfa.symm.trans (PySem.W.mg_of X G g_law)
  cases e
  refine ⟨{ a_l_bag := f_l_bag, d_l_bag := PySem.W.fnOf "_law_bag" "_law_bag" (defArgs s_l_bag) (defBody s_l_bag) (defScope s_l_bag) .none kV_l_bag dc_l_bag pm_l_bag an_l_bag cd_l_bag ct_l_bag, a_l_cell := f_l_cell, d_l_cell := PySem.W.fnOf "_law_cell" "_law_cell" (defArgs s_l_cell) (defBody s_l_cell) (defScope s_l_cell) .none kV_l_cell dc_l_cell pm_l_cell an_l_cell cd_l_cell ct_l_cell, a_l_take := f_l_take, d_l_take := PySem.W.fnOf "_law_take" "_law_take" (defArgs s_l_take) (defBody s_l_take) (defScope s_l_take) .none kV_l_take dc_l_take pm_l_take an_l_take cd_l_take ct_l_take, a_l_char := f_l_char, d_l_char := PySem.W.fnOf "_law_char" "_law_char" (defArgs s_l_char) (defBody s_l_char) (defScope s_l_char) .none kV_l_char dc_l_char pm_l_char an_l_char cd_l_char ct_l_char, a_l_chars := f_l_chars, d_l_chars := PySem.W.fnOf "_law_chars" "_law_chars" (defArgs s_l_chars) (defBody s_l_chars) (defScope s_l_chars) .none kV_l_chars dc_l_chars pm_l_chars an_l_chars cd_l_chars ct_l_chars, a_is_list := f_is_list, d_is_list := PySem.W.fnOf "is_list" "is_list" (defArgs s_is_list) (defBody s_is_list) (defScope s_is_list) .none kV_is_list dc_is_list pm_is_list an_is_list cd_is_list ct_is_list, a_is_whole := f_is_whole, d_is_whole := PySem.W.fnOf "is_whole" "is_whole" (defArgs s_is_whole) (defBody s_is_whole) (defScope s_is_whole) .none kV_is_whole dc_is_whole pm_is_whole an_is_whole cd_is_whole ct_is_whole, a_is_integer := f_is_integer, d_is_integer := PySem.W.fnOf "is_integer" "is_integer" (defArgs s_is_integer) (defBody s_is_integer) (defScope s_is_integer) .none kV_is_integer dc_is_integer pm_is_integer an_is_integer cd_is_integer ct_is_integer, a_is_char := f_is_char, d_is_char := PySem.W.fnOf "is_char" "is_char" (defArgs s_is_char) (defBody s_is_char) (defScope s_is_char) .none kV_is_char dc_is_char pm_is_char an_is_char cd_is_char ct_is_char, a_check_char := f_check_char, d_check_char := PySem.W.fnOf "check_char" "check_char" (defArgs s_check_char) (defBody s_check_char) (defScope s_check_char) .none kV_check_char dc_check_char pm_check_char an_check_char cd_check_char ct_check_char, a_check_chars := f_check_chars, d_check_chars := PySem.W.fnOf "check_chars" "check_chars" (defArgs s_check_chars) (defBody s_check_chars) (defScope s_check_chars) .none kV_check_chars dc_check_chars pm_check_chars an_check_chars cd_check_chars ct_check_chars, a_Text_init := f_Text_init, d_Text_init := PySem.W.fnOf "__init__" "Text.__init__" (defArgs s_Text_init) (defBody s_Text_init) (defScope s_Text_init) .none kV_Text_init dc_Text_init pm_Text_init an_Text_init cd_Text_init ct_Text_init, a_Text_gt := f_Text_gt, d_Text_gt := PySem.W.fnOf "__gt__" "Text.__gt__" (defArgs s_Text_gt) (defBody s_Text_gt) (defScope s_Text_gt) .none kV_Text_gt dc_Text_gt pm_Text_gt an_Text_gt cd_Text_gt ct_Text_gt, a_Text_lt := f_Text_lt, d_Text_lt := PySem.W.fnOf "__lt__" "Text.__lt__" (defArgs s_Text_lt) (defBody s_Text_lt) (defScope s_Text_lt) .none kV_Text_lt dc_Text_lt pm_Text_lt an_Text_lt cd_Text_lt ct_Text_lt, a_l_sign := f_l_sign, d_l_sign := PySem.W.fnOf "_law_sign" "_law_sign" (defArgs s_l_sign) (defBody s_l_sign) (defScope s_l_sign) .none kV_l_sign dc_l_sign pm_l_sign an_l_sign cd_l_sign ct_l_sign, a_is_kind := f_is_kind, d_is_kind := PySem.W.fnOf "is_kind" "is_kind" (defArgs s_is_kind) (defBody s_is_kind) (defScope s_is_kind) .none kV_is_kind dc_is_kind pm_is_kind an_is_kind cd_is_kind ct_is_kind, a_check_kind := f_check_kind, d_check_kind := PySem.W.fnOf "check_kind" "check_kind" (defArgs s_check_kind) (defBody s_check_kind) (defScope s_check_kind) .none kV_check_kind dc_check_kind pm_check_kind an_check_kind cd_check_kind ct_check_kind, a_byte_width := f_byte_width, d_byte_width := PySem.W.fnOf "byte_width" "byte_width" (defArgs s_byte_width) (defBody s_byte_width) (defScope s_byte_width) .none kV_byte_width dc_byte_width pm_byte_width an_byte_width cd_byte_width ct_byte_width, a_byte_items := f_byte_items, d_byte_items := PySem.W.fnOf "byte_items" "byte_items" (defArgs s_byte_items) (defBody s_byte_items) (defScope s_byte_items) .none kV_byte_items dc_byte_items pm_byte_items an_byte_items cd_byte_items ct_byte_items, a_unit_items := f_unit_items, d_unit_items := PySem.W.fnOf "unit_items" "unit_items" (defArgs s_unit_items) (defBody s_unit_items) (defScope s_unit_items) .none kV_unit_items dc_unit_items pm_unit_items an_unit_items cd_unit_items ct_unit_items, a_char_items := f_char_items, d_char_items := PySem.W.fnOf "char_items" "char_items" (defArgs s_char_items) (defBody s_char_items) (defScope s_char_items) .none kV_char_items dc_char_items pm_char_items an_char_items cd_char_items ct_char_items, a_items := f_items, d_items := PySem.W.fnOf "items" "items" (defArgs s_items) (defBody s_items) (defScope s_items) .none kV_items dc_items pm_items an_items cd_items ct_items, a_l_all := f_l_all, d_l_all := PySem.W.fnOf "_law_all" "_law_all" (defArgs s_l_all) (defBody s_l_all) (defScope s_l_all) .none kV_l_all dc_l_all pm_l_all an_l_all cd_l_all ct_l_all, a_check_text := f_check_text, d_check_text := PySem.W.fnOf "check_text" "check_text" (defArgs s_check_text) (defBody s_check_text) (defScope s_check_text) .none kV_check_text dc_check_text pm_check_text an_check_text cd_check_text ct_check_text, a_Text_chars := f_Text_chars, d_Text_chars := PySem.W.fnOf "chars" "Text.chars" (defArgs s_Text_chars) (defBody s_Text_chars) (defScope s_Text_chars) .none kV_Text_chars dc_Text_chars pm_Text_chars an_Text_chars cd_Text_chars ct_Text_chars, a_text_items := f_text_items, d_text_items := PySem.W.fnOf "text_items" "text_items" (defArgs s_text_items) (defBody s_text_items) (defScope s_text_items) .none kV_text_items dc_text_items pm_text_items an_text_items cd_text_items ct_text_items, a_compare := f_compare, d_compare := PySem.W.fnOf "compare" "compare" (defArgs s_compare) (defBody s_compare) (defScope s_compare) .none kV_compare dc_compare pm_compare an_compare cd_compare ct_compare, a_l_caught := f_l_caught, d_l_caught := PySem.W.fnOf "_law_caught" "_law_caught" (defArgs s_l_caught) (defBody s_l_caught) (defScope s_l_caught) .none kV_l_caught dc_l_caught pm_l_caught an_l_caught cd_l_caught ct_l_caught, a_l_pair_right := f_l_pair_right, d_l_pair_right := PySem.W.fnOf "_law_pair_right" "_law_pair_right" (defArgs s_l_pair_right) (defBody s_l_pair_right) (defScope s_l_pair_right) .none kV_l_pair_right dc_l_pair_right pm_l_pair_right an_l_pair_right cd_l_pair_right ct_l_pair_right, a_law := fa, d_law := PySem.W.fnOf "law" "law" (defArgs s_law) (defBody s_law) (defScope s_law) .none kV_law dc_law pm_law an_law cd_law ct_law, C_Text := C_Text, C_InvalidChar := C_InvalidChar, n_InvalidChar := n_InvalidChar, d_InvalidChar := PySem.W.fnOf "__init__" "InvalidChar.__init__" (defArgs s_InvalidChar) (defBody s_InvalidChar) (defScope s_InvalidChar) .none kV_InvalidChar dc_InvalidChar pm_InvalidChar an_InvalidChar cd_InvalidChar ct_InvalidChar, C_InvalidChars := C_InvalidChars, n_InvalidChars := n_InvalidChars, d_InvalidChars := PySem.W.fnOf "__init__" "InvalidChars.__init__" (defArgs s_InvalidChars) (defBody s_InvalidChars) (defScope s_InvalidChars) .none kV_InvalidChars dc_InvalidChars pm_InvalidChars an_InvalidChars cd_InvalidChars ct_InvalidChars, C_InvalidText := C_InvalidText, n_InvalidText := n_InvalidText, d_InvalidText := PySem.W.fnOf "__init__" "InvalidText.__init__" (defArgs s_InvalidText) (defBody s_InvalidText) (defScope s_InvalidText) .none kV_InvalidText dc_InvalidText pm_InvalidText an_InvalidText cd_InvalidText ct_InvalidText, C_InvalidKind := C_InvalidKind, n_InvalidKind := n_InvalidKind, d_InvalidKind := PySem.W.fnOf "__init__" "InvalidKind.__init__" (defArgs s_InvalidKind) (defBody s_InvalidKind) (defScope s_InvalidKind) .none kV_InvalidKind dc_InvalidKind pm_InvalidKind an_InvalidKind cd_InvalidKind ct_InvalidKind, C_BadPlace := C_BadPlace, n_BadPlace := n_BadPlace, d_BadPlace := PySem.W.fnOf "__init__" "BadPlace.__init__" (defArgs s_BadPlace) (defBody s_BadPlace) (defScope s_BadPlace) .none kV_BadPlace dc_BadPlace pm_BadPlace an_BadPlace cd_BadPlace ct_BadPlace, t_KINDS := t_KINDS, t_FIRST_BYTES := t_FIRST_BYTES }, rfl, ?_, fun s v => .of_eq rfl⟩
  exact {
    g_l_bag := PySem.W.mg_of X G g_l_bag
    F_l_bag := F_l_bag
    b_l_bag := F_l_bag.binds (ps := ["_law_cell_here"]) fun _ _ _ _ _ _ us hl => match us, hl with | [_], _ => rfl
    g_l_cell := PySem.W.mg_of X G g_l_cell
    F_l_cell := F_l_cell
    b_l_cell := F_l_cell.binds (ps := ["_law_script", "_law_index"]) fun _ _ _ _ _ _ us hl => match us, hl with | [_, _], _ => rfl
    g_l_take := PySem.W.mg_of X G g_l_take
    F_l_take := F_l_take
    b_l_take := F_l_take.binds (ps := ["_law_bag_here", "_law_many"]) fun _ _ _ _ _ _ us hl => match us, hl with | [_, _], _ => rfl
    g_l_char := PySem.W.mg_of X G g_l_char
    F_l_char := F_l_char
    b_l_char := F_l_char.binds (ps := ["_law_bag_here"]) fun _ _ _ _ _ _ us hl => match us, hl with | [_], _ => rfl
    g_l_chars := PySem.W.mg_of X G g_l_chars
    F_l_chars := F_l_chars
    b_l_chars := F_l_chars.binds (ps := ["_law_bag_here", "_law_most"]) fun _ _ _ _ _ _ us hl => match us, hl with | [_, _], _ => rfl
    g_is_list := PySem.W.mg_of X G g_is_list
    F_is_list := F_is_list
    b_is_list := F_is_list.binds (ps := ["value"]) fun _ _ _ _ _ _ us hl => match us, hl with | [_], _ => rfl
    g_is_whole := PySem.W.mg_of X G g_is_whole
    F_is_whole := F_is_whole
    b_is_whole := F_is_whole.binds (ps := ["value"]) fun _ _ _ _ _ _ us hl => match us, hl with | [_], _ => rfl
    g_is_integer := PySem.W.mg_of X G g_is_integer
    F_is_integer := F_is_integer
    b_is_integer := F_is_integer.binds (ps := ["value", "low", "high"]) fun _ _ _ _ _ _ us hl => match us, hl with | [_, _, _], _ => rfl
    g_is_char := PySem.W.mg_of X G g_is_char
    F_is_char := F_is_char
    b_is_char := F_is_char.binds (ps := ["value"]) fun _ _ _ _ _ _ us hl => match us, hl with | [_], _ => rfl
    g_check_char := PySem.W.mg_of X G g_check_char
    F_check_char := F_check_char
    b_check_char := F_check_char.binds (ps := ["char"]) fun _ _ _ _ _ _ us hl => match us, hl with | [_], _ => rfl
    g_check_chars := PySem.W.mg_of X G g_check_chars
    F_check_chars := F_check_chars
    b_check_chars := F_check_chars.binds (ps := ["chars"]) fun _ _ _ _ _ _ us hl => match us, hl with | [_], _ => rfl
    F_Text_init := F_Text_init
    b_Text_init := F_Text_init.binds (ps := ["self", "chars"]) fun _ _ _ _ _ _ us hl => match us, hl with | [_, _], _ => rfl
    k_Text := ⟨mk_Text, fa_Text_init, if_Text_init, kc_Text⟩
    F_Text_gt := F_Text_gt
    b_Text_gt := F_Text_gt.binds (ps := ["self", "other"]) fun _ _ _ _ _ _ us hl => match us, hl with | [_, _], _ => rfl
    o_Text_gt := ⟨fa_Text_gt, if_Text_gt⟩
    F_Text_lt := F_Text_lt
    b_Text_lt := F_Text_lt.binds (ps := ["self", "other"]) fun _ _ _ _ _ _ us hl => match us, hl with | [_, _], _ => rfl
    o_Text_lt := ⟨fa_Text_lt, if_Text_lt⟩
    g_l_sign := PySem.W.mg_of X G g_l_sign
    F_l_sign := F_l_sign
    b_l_sign := F_l_sign.binds (ps := ["_law_one", "_law_other"]) fun _ _ _ _ _ _ us hl => match us, hl with | [_, _], _ => rfl
    g_is_kind := PySem.W.mg_of X G g_is_kind
    F_is_kind := F_is_kind
    b_is_kind := F_is_kind.binds (ps := ["value"]) fun _ _ _ _ _ _ us hl => match us, hl with | [_], _ => rfl
    g_check_kind := PySem.W.mg_of X G g_check_kind
    F_check_kind := F_check_kind
    b_check_kind := F_check_kind.binds (ps := ["kind"]) fun _ _ _ _ _ _ us hl => match us, hl with | [_], _ => rfl
    g_byte_width := PySem.W.mg_of X G g_byte_width
    F_byte_width := F_byte_width
    b_byte_width := F_byte_width.binds (ps := ["char"]) fun _ _ _ _ _ _ us hl => match us, hl with | [_], _ => rfl
    g_byte_items := PySem.W.mg_of X G g_byte_items
    F_byte_items := F_byte_items
    b_byte_items := F_byte_items.binds (ps := ["char"]) fun _ _ _ _ _ _ us hl => match us, hl with | [_], _ => rfl
    g_unit_items := PySem.W.mg_of X G g_unit_items
    F_unit_items := F_unit_items
    b_unit_items := F_unit_items.binds (ps := ["char"]) fun _ _ _ _ _ _ us hl => match us, hl with | [_], _ => rfl
    g_char_items := PySem.W.mg_of X G g_char_items
    F_char_items := F_char_items
    b_char_items := F_char_items.binds (ps := ["char", "kind"]) fun _ _ _ _ _ _ us hl => match us, hl with | [_, _], _ => rfl
    g_items := PySem.W.mg_of X G g_items
    F_items := F_items
    b_items := F_items.binds (ps := ["char", "kind"]) fun _ _ _ _ _ _ us hl => match us, hl with | [_, _], _ => rfl
    g_l_all := PySem.W.mg_of X G g_l_all
    F_l_all := F_l_all
    b_l_all := F_l_all.binds (ps := ["_law_chars_here", "_law_kind"]) fun _ _ _ _ _ _ us hl => match us, hl with | [_, _], _ => rfl
    g_check_text := PySem.W.mg_of X G g_check_text
    F_check_text := F_check_text
    b_check_text := F_check_text.binds (ps := ["text"]) fun _ _ _ _ _ _ us hl => match us, hl with | [_], _ => rfl
    F_Text_chars := F_Text_chars
    b_Text_chars := F_Text_chars.binds (ps := ["self"]) fun _ _ _ _ _ _ us hl => match us, hl with | [_], _ => rfl
    m_Text_chars := ⟨fa_Text_chars, if_Text_chars, kp_Text_chars⟩
    g_text_items := PySem.W.mg_of X G g_text_items
    F_text_items := F_text_items
    b_text_items := F_text_items.binds (ps := ["text", "kind"]) fun _ _ _ _ _ _ us hl => match us, hl with | [_, _], _ => rfl
    g_compare := PySem.W.mg_of X G g_compare
    F_compare := F_compare
    b_compare := F_compare.binds (ps := ["one", "other", "kind"]) fun _ _ _ _ _ _ us hl => match us, hl with | [_, _, _], _ => rfl
    g_l_caught := PySem.W.mg_of X G g_l_caught
    F_l_caught := F_l_caught
    b_l_caught := F_l_caught.binds (ps := ["_law_one", "_law_other", "_law_kind"]) fun _ _ _ _ _ _ us hl => match us, hl with | [_, _, _], _ => rfl
    g_l_pair_right := PySem.W.mg_of X G g_l_pair_right
    F_l_pair_right := F_l_pair_right
    b_l_pair_right := F_l_pair_right.binds (ps := ["_law_left", "_law_right"]) fun _ _ _ _ _ _ us hl => match us, hl with | [_, _], _ => rfl
    g_law := PySem.W.mg_of X G g_law
    F_law := F_law
    g_Text := PySem.W.mg_of X G g_Text
    is_Text := ⟨⟨pg_Text, hd_Text, po_Text, sa_Text⟩, ca_Text, cn_cl, ct_cl, mo_Text⟩
    g_InvalidChar := PySem.W.mg_of X G g_InvalidChar
    x_InvalidChar := ⟨⟨_, _, _, _, _, _, _, _, _, _, _, _, _, _, _, xL_InvalidChar, refsVE_two⟩, sa_InvalidChar, eC_InvalidChar, tC_InvalidChar, kC_InvalidChar⟩
    f_InvalidChar := ⟨ga_InvalidChar, gg_InvalidChar, eC_InvalidChar, hC_InvalidChar⟩
    i_InvalidChar := in_InvalidChar
    t_InvalidChar := ti_InvalidChar
    F_InvalidChar := F_InvalidChar
    b_InvalidChar := F_InvalidChar.binds (ps := ["self", "value"]) fun _ _ _ _ _ _ us hl => match us, hl with | [_, _], _ => rfl
    v_InvalidChar_value := v_InvalidChar_value
    g_InvalidChars := PySem.W.mg_of X G g_InvalidChars
    x_InvalidChars := ⟨⟨_, _, _, _, _, _, _, _, _, _, _, _, _, _, _, xL_InvalidChars, refsVE_two⟩, sa_InvalidChars, eC_InvalidChars, tC_InvalidChars, kC_InvalidChars⟩
    f_InvalidChars := ⟨ga_InvalidChars, gg_InvalidChars, eC_InvalidChars, hC_InvalidChars⟩
    i_InvalidChars := in_InvalidChars
    t_InvalidChars := ti_InvalidChars
    F_InvalidChars := F_InvalidChars
    b_InvalidChars := F_InvalidChars.binds (ps := ["self", "value"]) fun _ _ _ _ _ _ us hl => match us, hl with | [_, _], _ => rfl
    v_InvalidChars_value := v_InvalidChars_value
    g_InvalidText := PySem.W.mg_of X G g_InvalidText
    x_InvalidText := ⟨⟨_, _, _, _, _, _, _, _, _, _, _, _, _, _, _, xL_InvalidText, refsVE_two⟩, sa_InvalidText, eC_InvalidText, tC_InvalidText, kC_InvalidText⟩
    f_InvalidText := ⟨ga_InvalidText, gg_InvalidText, eC_InvalidText, hC_InvalidText⟩
    i_InvalidText := in_InvalidText
    t_InvalidText := ti_InvalidText
    F_InvalidText := F_InvalidText
    b_InvalidText := F_InvalidText.binds (ps := ["self", "value"]) fun _ _ _ _ _ _ us hl => match us, hl with | [_, _], _ => rfl
    v_InvalidText_value := v_InvalidText_value
    g_InvalidKind := PySem.W.mg_of X G g_InvalidKind
    x_InvalidKind := ⟨⟨_, _, _, _, _, _, _, _, _, _, _, _, _, _, _, xL_InvalidKind, refsVE_two⟩, sa_InvalidKind, eC_InvalidKind, tC_InvalidKind, kC_InvalidKind⟩
    f_InvalidKind := ⟨ga_InvalidKind, gg_InvalidKind, eC_InvalidKind, hC_InvalidKind⟩
    i_InvalidKind := in_InvalidKind
    t_InvalidKind := ti_InvalidKind
    F_InvalidKind := F_InvalidKind
    b_InvalidKind := F_InvalidKind.binds (ps := ["self", "value"]) fun _ _ _ _ _ _ us hl => match us, hl with | [_, _], _ => rfl
    v_InvalidKind_value := v_InvalidKind_value
    g_BadPlace := PySem.W.mg_of X G g_BadPlace
    x_BadPlace := ⟨⟨_, _, _, _, _, _, _, _, _, _, _, _, _, _, _, xL_BadPlace, refsVE_two⟩, sa_BadPlace, eC_BadPlace, tC_BadPlace, kC_BadPlace⟩
    f_BadPlace := ⟨ga_BadPlace, gg_BadPlace, eC_BadPlace, hC_BadPlace⟩
    i_BadPlace := in_BadPlace
    t_BadPlace := ti_BadPlace
    F_BadPlace := F_BadPlace
    b_BadPlace := F_BadPlace.binds (ps := ["self", "number"]) fun _ _ _ _ _ _ us hl => match us, hl with | [_, _], _ => rfl
    v_BadPlace_number := v_BadPlace_number
    e_InvalidChar_InvalidKind := exm_two eC_InvalidKind iC_InvalidKind tC_InvalidKind s_InvalidChar_InvalidKind
    e_InvalidChars_InvalidKind := exm_two eC_InvalidKind iC_InvalidKind tC_InvalidKind s_InvalidChars_InvalidKind
    e_InvalidText_InvalidKind := exm_two eC_InvalidKind iC_InvalidKind tC_InvalidKind s_InvalidText_InvalidKind
    e_InvalidKind_InvalidKind := exm_two eC_InvalidKind iC_InvalidKind tC_InvalidKind s_InvalidKind_InvalidKind
    e_BadPlace_InvalidKind := exm_two eC_InvalidKind iC_InvalidKind tC_InvalidKind s_BadPlace_InvalidKind
    e_InvalidChar_InvalidText := exm_two eC_InvalidText iC_InvalidText tC_InvalidText s_InvalidChar_InvalidText
    e_InvalidChars_InvalidText := exm_two eC_InvalidText iC_InvalidText tC_InvalidText s_InvalidChars_InvalidText
    e_InvalidText_InvalidText := exm_two eC_InvalidText iC_InvalidText tC_InvalidText s_InvalidText_InvalidText
    e_InvalidKind_InvalidText := exm_two eC_InvalidText iC_InvalidText tC_InvalidText s_InvalidKind_InvalidText
    e_BadPlace_InvalidText := exm_two eC_InvalidText iC_InvalidText tC_InvalidText s_BadPlace_InvalidText
    n_Text_points := n_Text_points
    o_Text_NoneType := kit_own ic_Text tc_Text sb_Text_NoneType
    o_Text_bool := kit_own ic_Text tc_Text sb_Text_bool
    o_Text_int := kit_own ic_Text tc_Text sb_Text_int
    o_Text_str := kit_own ic_Text tc_Text sb_Text_str
    o_Text_list := kit_own ic_Text tc_Text sb_Text_list
    o_Text_tuple := kit_own ic_Text tc_Text sb_Text_tuple
    o_Text_dict := kit_own ic_Text tc_Text sb_Text_dict
    q_Text_bool := kit_up (by decide +kernel) su_Text_bool
    q_Text_int := kit_up (by decide +kernel) su_Text_int
    q_Text_list := kit_up (by decide +kernel) su_Text_list
    q_Text_str := kit_up (by decide +kernel) su_Text_str
    q_Text_tuple := kit_up (by decide +kernel) su_Text_tuple
    nf_Text_NoneType := notFirst_of sb_Text_NoneType
    nf_Text_bool := notFirst_of sb_Text_bool
    nf_Text_int := notFirst_of sb_Text_int
    nf_Text_str := notFirst_of sb_Text_str
    nf_Text_list := notFirst_of sb_Text_list
    nf_Text_tuple := notFirst_of sb_Text_tuple
    nf_Text_dict := notFirst_of sb_Text_dict
    nf_Text_Text := notFirst_self
    ne_Text := ⟨nea_Text, mo_Text⟩
    c_LAST_CHAR := ⟨_, PySem.W.mg_of X G v_LAST_CHAR⟩
    c_FIRST_SURROGATE := ⟨_, PySem.W.mg_of X G v_FIRST_SURROGATE⟩
    c_LAST_SURROGATE := ⟨_, PySem.W.mg_of X G v_LAST_SURROGATE⟩
    g_KINDS := PySem.W.mg_of X G g_KINDS
    s_KINDS := fun H => .inr ⟨_, _, _, l_KINDS, rfl, rfl, (by show 3 ≤ sizeLine; decide), .cons ⟨_, rfl⟩ (.cons ⟨_, rfl⟩ (.cons ⟨_, rfl⟩ (.nil)))⟩
    c_FIRST_WIDE := ⟨_, PySem.W.mg_of X G v_FIRST_WIDE⟩
    c_NEXT_BYTE := ⟨_, PySem.W.mg_of X G v_NEXT_BYTE⟩
    c_BYTE_SHARE := ⟨_, PySem.W.mg_of X G v_BYTE_SHARE⟩
    g_FIRST_BYTES := PySem.W.mg_of X G g_FIRST_BYTES
    s_FIRST_BYTES := ktab_of l_FIRST_BYTES (by subst hh0_FIRST_BYTES hh1_FIRST_BYTES hh2_FIRST_BYTES hh3_FIRST_BYTES; rfl)
    c_LOW_UNIT := ⟨_, PySem.W.mg_of X G v_LOW_UNIT⟩
    c_UNIT_SHARE := ⟨_, PySem.W.mg_of X G v_UNIT_SHARE⟩
    c_HIGH_UNIT := ⟨_, PySem.W.mg_of X G v_HIGH_UNIT⟩
    z_len := PySem.W.mg_none_of X G z_len
    z_min := PySem.W.mg_none_of X G z_min
    z_max := PySem.W.mg_none_of X G z_max
    z_range := PySem.W.mg_none_of X G z_range
    z_isinstance := PySem.W.mg_none_of X G z_isinstance
    z_list := PySem.W.mg_none_of X G z_list
    z_tuple := PySem.W.mg_none_of X G z_tuple
    z_bool := PySem.W.mg_none_of X G z_bool
    z_int := PySem.W.mg_none_of X G z_int
    z_repr := PySem.W.mg_none_of X G z_repr
    z_str := PySem.W.mg_none_of X G z_str
  }
theorem walk_here {l : PySem.W.OpenLaw} {q : Program} {loose : List Str} {XP : (Str → Option Value) → Heap → Prop} {YP : World → Heap → Prop} {d : DefRec} {K : Params → PySem.W.Frag}
    (hn : l.most = some 63) (hdf : d.params.defaults = []) (noImp : importsNone q = true) (hY : ∀ (w : World) (h : Heap), YP w h → (K w.params).In h) (ok : LawOk l.prog)
    (F : ∀ (w : World) (mg : Str → Option Value) (fa : Addr) (h : Heap), (K w.params).In h → h.Ns mainGlobals mg → mg d.name = some (.ref fa) →
      ∃ A : Ads, A.a_law = fa ∧ Txt (K w.params) mg A ∧ ∀ (s : Shared) (v : Value), BindsTo s A.d_law ⟨[v], []⟩ [("_law_script", v)]) :
    PySem.W.WalkO q loose XP YP l.row.toRowW d [] (fun f vs => PySem.call f vs) := by
  refine Att.attach_call hn hdf fun w s₀ s₁ mg mb fa o pm cd doc a vs ns G Y ho hd hcd hmg hobj hints hlen hg => ?_
  have KH := hY w _ Y
  obtain ⟨A, rfl, T, hb⟩ := F w mg fa _ KH G.T.g hmg
  exact call_here KH G.T.g G.T.b G.T.builtins G.T.nolimit (let ⟨mm, z, _⟩ := (G.T.seer noImp).mods; ⟨mm, z⟩) hg hobj hints (Nat.le_trans hlen (by decide)) fun base H _ _ hO hS e0 sb => ok w _ mg A base H s₁ a ns T hb hlen hS hO e0 sb

end Tc

open PySem PySem.W PyProof.Rows in
set_option maxRecDepth 100000 in
set_option maxHeartbeats 0 in
theorem PySem.Challenge.cw_threecounts_k07_texts_ordered_holds : PySem.Challenge.rw_threecounts_k07_texts_ordered.Holds := by
  w_on; o_law; k_head; (case hw => w_witness2)
  k_fill
  refine Tc.walk_here (l := PySem.Challenge.rw_threecounts_k07_texts_ordered) rfl rfl (by decide +kernel) (fun w h Y => PySem.W.kIn_of Y) (Tc.law_ok _) ?F
  case F =>
    intro w mg fa h KX G hmg
    refine' Tc.all_mk KX G hmg ?g_Text ?pg_Text ?hd_Text ?po_Text ?sa_Text ?ca_Text ?mo_Text ?ic_Text ?tc_Text ?g_l_bag ?l_l_bag ?c_l_bag ?kp_l_bag ?g_l_cell ?l_l_cell ?c_l_cell ?kp_l_cell ?g_l_take ?l_l_take ?c_l_take ?kp_l_take ?g_l_char ?l_l_char ?c_l_char ?kp_l_char ?g_l_chars ?l_l_chars ?c_l_chars ?kp_l_chars ?g_is_list ?l_is_list ?c_is_list ?kp_is_list ?g_is_whole ?l_is_whole ?c_is_whole ?kp_is_whole ?g_is_integer ?l_is_integer ?c_is_integer ?kp_is_integer ?g_is_char ?l_is_char ?c_is_char ?kp_is_char ?g_check_char ?l_check_char ?c_check_char ?kp_check_char ?g_check_chars ?l_check_chars ?c_check_chars ?kp_check_chars ?fa_Text_init ?if_Text_init ?l_Text_init ?c_Text_init ?kp_Text_init ?mk_Text ?kc_Text ?fa_Text_gt ?if_Text_gt ?l_Text_gt ?c_Text_gt ?kp_Text_gt ?fa_Text_lt ?if_Text_lt ?l_Text_lt ?c_Text_lt ?kp_Text_lt ?g_l_sign ?l_l_sign ?c_l_sign ?kp_l_sign ?g_is_kind ?l_is_kind ?c_is_kind ?kp_is_kind ?g_check_kind ?l_check_kind ?c_check_kind ?kp_check_kind ?g_byte_width ?l_byte_width ?c_byte_width ?kp_byte_width ?g_byte_items ?l_byte_items ?c_byte_items ?kp_byte_items ?g_unit_items ?l_unit_items ?c_unit_items ?kp_unit_items ?g_char_items ?l_char_items ?c_char_items ?kp_char_items ?g_items ?l_items ?c_items ?kp_items ?g_l_all ?l_l_all ?c_l_all ?kp_l_all ?g_check_text ?l_check_text ?c_check_text ?kp_check_text ?fa_Text_chars ?if_Text_chars ?l_Text_chars ?c_Text_chars ?kp_Text_chars ?g_text_items ?l_text_items ?c_text_items ?kp_text_items ?g_compare ?l_compare ?c_compare ?kp_compare ?g_l_caught ?l_l_caught ?c_l_caught ?kp_l_caught ?g_l_pair_right ?l_l_pair_right ?c_l_pair_right ?kp_l_pair_right ?g_law ?l_law ?c_law ?kp_law ?g_InvalidChar ?xL_InvalidChar ?sa_InvalidChar ?ga_InvalidChar ?gg_InvalidChar ?v_InvalidChar_value ?in_InvalidChar ?ti_InvalidChar ?li_InvalidChar ?ci_InvalidChar ?ki_InvalidChar ?kC_InvalidChar ?eC_InvalidChar ?tC_InvalidChar ?hC_InvalidChar ?iC_InvalidChar ?g_InvalidChars ?xL_InvalidChars ?sa_InvalidChars ?ga_InvalidChars ?gg_InvalidChars ?v_InvalidChars_value ?in_InvalidChars ?ti_InvalidChars ?li_InvalidChars ?ci_InvalidChars ?ki_InvalidChars ?kC_InvalidChars ?eC_InvalidChars ?tC_InvalidChars ?hC_InvalidChars ?iC_InvalidChars ?g_InvalidText ?xL_InvalidText ?sa_InvalidText ?ga_InvalidText ?gg_InvalidText ?v_InvalidText_value ?in_InvalidText ?ti_InvalidText ?li_InvalidText ?ci_InvalidText ?ki_InvalidText ?kC_InvalidText ?eC_InvalidText ?tC_InvalidText ?hC_InvalidText ?iC_InvalidText ?g_InvalidKind ?xL_InvalidKind ?sa_InvalidKind ?ga_InvalidKind ?gg_InvalidKind ?v_InvalidKind_value ?in_InvalidKind ?ti_InvalidKind ?li_InvalidKind ?ci_InvalidKind ?ki_InvalidKind ?kC_InvalidKind ?eC_InvalidKind ?tC_InvalidKind ?hC_InvalidKind ?iC_InvalidKind ?g_BadPlace ?xL_BadPlace ?sa_BadPlace ?ga_BadPlace ?gg_BadPlace ?v_BadPlace_number ?in_BadPlace ?ti_BadPlace ?li_BadPlace ?ci_BadPlace ?ki_BadPlace ?kC_BadPlace ?eC_BadPlace ?tC_BadPlace ?hC_BadPlace ?iC_BadPlace ?s_InvalidChar_InvalidKind ?s_InvalidChars_InvalidKind ?s_InvalidText_InvalidKind ?s_InvalidKind_InvalidKind ?s_BadPlace_InvalidKind ?s_InvalidChar_InvalidText ?s_InvalidChars_InvalidText ?s_InvalidText_InvalidText ?s_InvalidKind_InvalidText ?s_BadPlace_InvalidText ?cn_cl ?ct_cl ?n_Text_points ?nea_Text ?sb_Text_NoneType ?sb_Text_bool ?sb_Text_int ?sb_Text_str ?sb_Text_list ?sb_Text_tuple ?sb_Text_dict ?su_Text_bool ?su_Text_int ?su_Text_list ?su_Text_str ?su_Text_tuple ?v_LAST_CHAR ?v_FIRST_SURROGATE ?v_LAST_SURROGATE ?g_KINDS ?l_KINDS ?v_FIRST_WIDE ?v_NEXT_BYTE ?v_BYTE_SHARE ?g_FIRST_BYTES ?l_FIRST_BYTES ?hh0_FIRST_BYTES ?hh1_FIRST_BYTES ?hh2_FIRST_BYTES ?hh3_FIRST_BYTES ?v_LOW_UNIT ?v_UNIT_SHARE ?v_HIGH_UNIT ?z_len ?z_min ?z_max ?z_range ?z_isinstance ?z_list ?z_tuple ?z_bool ?z_int ?z_repr ?z_str
    (case g_Text => k_is)
    (case pg_Text => k_is)
    (case hd_Text => k_is)
    (case po_Text => k_is)
    (case sa_Text => k_is)
    (case ca_Text => k_is)
    (case mo_Text => k_is)
    (case ic_Text => k_is)
    (case tc_Text => k_is)
    (case g_l_bag => k_is)
    (case l_l_bag => k_is)
    (case c_l_bag => k_is)
    (case kp_l_bag => k_is)
    (case g_l_cell => k_is)
    (case l_l_cell => k_is)
    (case c_l_cell => k_is)
    (case kp_l_cell => k_is)
    (case g_l_take => k_is)
    (case l_l_take => k_is)
    (case c_l_take => k_is)
    (case kp_l_take => k_is)
    (case g_l_char => k_is)
    (case l_l_char => k_is)
    (case c_l_char => k_is)
    (case kp_l_char => k_is)
    (case g_l_chars => k_is)
    (case l_l_chars => k_is)
    (case c_l_chars => k_is)
    (case kp_l_chars => k_is)
    (case g_is_list => k_is)
    (case l_is_list => k_is)
    (case c_is_list => k_is)
    (case kp_is_list => k_is)
    (case g_is_whole => k_is)
    (case l_is_whole => k_is)
    (case c_is_whole => k_is)
    (case kp_is_whole => k_is)
    (case g_is_integer => k_is)
    (case l_is_integer => k_is)
    (case c_is_integer => k_is)
    (case kp_is_integer => k_is)
    (case g_is_char => k_is)
    (case l_is_char => k_is)
    (case c_is_char => k_is)
    (case kp_is_char => k_is)
    (case g_check_char => k_is)
    (case l_check_char => k_is)
    (case c_check_char => k_is)
    (case kp_check_char => k_is)
    (case g_check_chars => k_is)
    (case l_check_chars => k_is)
    (case c_check_chars => k_is)
    (case kp_check_chars => k_is)
    (case fa_Text_init => k_is)
    (case if_Text_init => k_is)
    (case l_Text_init => k_is)
    (case c_Text_init => k_is)
    (case kp_Text_init => k_is)
    (case mk_Text => k_is)
    (case kc_Text => k_is)
    (case fa_Text_gt => k_is)
    (case if_Text_gt => k_is)
    (case l_Text_gt => k_is)
    (case c_Text_gt => k_is)
    (case kp_Text_gt => k_is)
    (case fa_Text_lt => k_is)
    (case if_Text_lt => k_is)
    (case l_Text_lt => k_is)
    (case c_Text_lt => k_is)
    (case kp_Text_lt => k_is)
    (case g_l_sign => k_is)
    (case l_l_sign => k_is)
    (case c_l_sign => k_is)
    (case kp_l_sign => k_is)
    (case g_is_kind => k_is)
    (case l_is_kind => k_is)
    (case c_is_kind => k_is)
    (case kp_is_kind => k_is)
    (case g_check_kind => k_is)
    (case l_check_kind => k_is)
    (case c_check_kind => k_is)
    (case kp_check_kind => k_is)
    (case g_byte_width => k_is)
    (case l_byte_width => k_is)
    (case c_byte_width => k_is)
    (case kp_byte_width => k_is)
    (case g_byte_items => k_is)
    (case l_byte_items => k_is)
    (case c_byte_items => k_is)
    (case kp_byte_items => k_is)
    (case g_unit_items => k_is)
    (case l_unit_items => k_is)
    (case c_unit_items => k_is)
    (case kp_unit_items => k_is)
    (case g_char_items => k_is)
    (case l_char_items => k_is)
    (case c_char_items => k_is)
    (case kp_char_items => k_is)
    (case g_items => k_is)
    (case l_items => k_is)
    (case c_items => k_is)
    (case kp_items => k_is)
    (case g_l_all => k_is)
    (case l_l_all => k_is)
    (case c_l_all => k_is)
    (case kp_l_all => k_is)
    (case g_check_text => k_is)
    (case l_check_text => k_is)
    (case c_check_text => k_is)
    (case kp_check_text => k_is)
    (case fa_Text_chars => k_is)
    (case if_Text_chars => k_is)
    (case l_Text_chars => k_is)
    (case c_Text_chars => k_is)
    (case kp_Text_chars => k_is)
    (case g_text_items => k_is)
    (case l_text_items => k_is)
    (case c_text_items => k_is)
    (case kp_text_items => k_is)
    (case g_compare => k_is)
    (case l_compare => k_is)
    (case c_compare => k_is)
    (case kp_compare => k_is)
    (case g_l_caught => k_is)
    (case l_l_caught => k_is)
    (case c_l_caught => k_is)
    (case kp_l_caught => k_is)
    (case g_l_pair_right => k_is)
    (case l_l_pair_right => k_is)
    (case c_l_pair_right => k_is)
    (case kp_l_pair_right => k_is)
    (case g_law => k_is)
    (case l_law => k_is)
    (case c_law => k_is)
    (case kp_law => k_is)
    (case g_InvalidChar => k_is)
    (case xL_InvalidChar => k_is)
    (case sa_InvalidChar => k_is)
    (case ga_InvalidChar => k_is)
    (case gg_InvalidChar => k_is)
    (case v_InvalidChar_value => k_is)
    (case in_InvalidChar => k_is)
    (case ti_InvalidChar => k_is)
    (case li_InvalidChar => k_is)
    (case ci_InvalidChar => k_is)
    (case ki_InvalidChar => k_is)
    (case kC_InvalidChar => k_is)
    (case eC_InvalidChar => k_is)
    (case tC_InvalidChar => k_is)
    (case hC_InvalidChar => k_is)
    (case iC_InvalidChar => k_is)
    (case g_InvalidChars => k_is)
    (case xL_InvalidChars => k_is)
    (case sa_InvalidChars => k_is)
    (case ga_InvalidChars => k_is)
    (case gg_InvalidChars => k_is)
    (case v_InvalidChars_value => k_is)
    (case in_InvalidChars => k_is)
    (case ti_InvalidChars => k_is)
    (case li_InvalidChars => k_is)
    (case ci_InvalidChars => k_is)
    (case ki_InvalidChars => k_is)
    (case kC_InvalidChars => k_is)
    (case eC_InvalidChars => k_is)
    (case tC_InvalidChars => k_is)
    (case hC_InvalidChars => k_is)
    (case iC_InvalidChars => k_is)
    (case g_InvalidText => k_is)
    (case xL_InvalidText => k_is)
    (case sa_InvalidText => k_is)
    (case ga_InvalidText => k_is)
    (case gg_InvalidText => k_is)
    (case v_InvalidText_value => k_is)
    (case in_InvalidText => k_is)
    (case ti_InvalidText => k_is)
    (case li_InvalidText => k_is)
    (case ci_InvalidText => k_is)
    (case ki_InvalidText => k_is)
    (case kC_InvalidText => k_is)
    (case eC_InvalidText => k_is)
    (case tC_InvalidText => k_is)
    (case hC_InvalidText => k_is)
    (case iC_InvalidText => k_is)
    (case g_InvalidKind => k_is)
    (case xL_InvalidKind => k_is)
    (case sa_InvalidKind => k_is)
    (case ga_InvalidKind => k_is)
    (case gg_InvalidKind => k_is)
    (case v_InvalidKind_value => k_is)
    (case in_InvalidKind => k_is)
    (case ti_InvalidKind => k_is)
    (case li_InvalidKind => k_is)
    (case ci_InvalidKind => k_is)
    (case ki_InvalidKind => k_is)
    (case kC_InvalidKind => k_is)
    (case eC_InvalidKind => k_is)
    (case tC_InvalidKind => k_is)
    (case hC_InvalidKind => k_is)
    (case iC_InvalidKind => k_is)
    (case g_BadPlace => k_is)
    (case xL_BadPlace => k_is)
    (case sa_BadPlace => k_is)
    (case ga_BadPlace => k_is)
    (case gg_BadPlace => k_is)
    (case v_BadPlace_number => k_is)
    (case in_BadPlace => k_is)
    (case ti_BadPlace => k_is)
    (case li_BadPlace => k_is)
    (case ci_BadPlace => k_is)
    (case ki_BadPlace => k_is)
    (case kC_BadPlace => k_is)
    (case eC_BadPlace => k_is)
    (case tC_BadPlace => k_is)
    (case hC_BadPlace => k_is)
    (case iC_BadPlace => k_is)
    (case s_InvalidChar_InvalidKind => first | rfl | k_is)
    (case s_InvalidChars_InvalidKind => first | rfl | k_is)
    (case s_InvalidText_InvalidKind => first | rfl | k_is)
    (case s_InvalidKind_InvalidKind => first | rfl | k_is)
    (case s_BadPlace_InvalidKind => first | rfl | k_is)
    (case s_InvalidChar_InvalidText => first | rfl | k_is)
    (case s_InvalidChars_InvalidText => first | rfl | k_is)
    (case s_InvalidText_InvalidText => first | rfl | k_is)
    (case s_InvalidKind_InvalidText => first | rfl | k_is)
    (case s_BadPlace_InvalidText => first | rfl | k_is)
    (case cn_cl => k_is)
    (case ct_cl => k_is)
    (case n_Text_points => k_is)
    (case nea_Text => k_is)
    (case sb_Text_NoneType => first | rfl | k_is)
    (case sb_Text_bool => first | rfl | k_is)
    (case sb_Text_int => first | rfl | k_is)
    (case sb_Text_str => first | rfl | k_is)
    (case sb_Text_list => first | rfl | k_is)
    (case sb_Text_tuple => first | rfl | k_is)
    (case sb_Text_dict => first | rfl | k_is)
    (case su_Text_bool => k_is)
    (case su_Text_int => k_is)
    (case su_Text_list => k_is)
    (case su_Text_str => k_is)
    (case su_Text_tuple => k_is)
    (case v_LAST_CHAR => k_is)
    (case v_FIRST_SURROGATE => k_is)
    (case v_LAST_SURROGATE => k_is)
    (case g_KINDS => k_is)
    (case l_KINDS => k_is)
    (case v_FIRST_WIDE => k_is)
    (case v_NEXT_BYTE => k_is)
    (case v_BYTE_SHARE => k_is)
    (case g_FIRST_BYTES => k_is)
    (case l_FIRST_BYTES => k_is)
    (case hh0_FIRST_BYTES => first | rfl | decide)
    (case hh1_FIRST_BYTES => first | rfl | decide)
    (case hh2_FIRST_BYTES => first | rfl | decide)
    (case hh3_FIRST_BYTES => first | rfl | decide)
    (case v_LOW_UNIT => k_is)
    (case v_UNIT_SHARE => k_is)
    (case v_HIGH_UNIT => k_is)
    (case z_len => k_is)
    (case z_min => k_is)
    (case z_max => k_is)
    (case z_range => k_is)
    (case z_isinstance => k_is)
    (case z_list => k_is)
    (case z_tuple => k_is)
    (case z_bool => k_is)
    (case z_int => k_is)
    (case z_repr => k_is)
    (case z_str => k_is)

