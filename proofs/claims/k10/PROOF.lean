import PyProof.Rows.All
import Wide.All
import OpenK.AllK
import Wide.FinOn
import HandS.Base
import HandS.Call
import HandS.List
import HandS.Ends
import HandS.Words
import HandS.Dict
import PyProof.ReprRoads
import HandS.ForMost
import HandS.IsInst
import HandS.RaiseMore
import HandS.DeepEq
import HandS.Walk
import HandS.Style
import PyProof.ReprLen
import PyProof.FitsInt
import PyProof.Rows.RegStrFacts
import PyProof.Rows.StrMul
import PyProof.Rows.StrCase
import PyProof.Rows.StrFit
import PyProof.StrBlock2
import HandS.ExcInit
import HandS.ExcIs
import HandS.ExcField
import HandS.ExcValue
import PySem.Challenge.RW_plancalls_k10_errors_kept
set_option Elab.async false
set_option linter.all false
set_option maxRecDepth 100000
/-! AL1: a def's promise where no repr runs around it (FnG), its rule, its call, the law's head. -/
namespace AL
open PySem PySem.Spec PyProof.Rows L2

/-- the interpreter's own table of modules stands in the heap at the entry -/
def SM (bs : Heap) : Prop := ∃ o es n, bs.get? sysModules = some o ∧ o.data = .dict es n

/-- as FnOk, but asked only where no guard (a repr that runs) stands around -/
structure FnG (pr : Program) (wd : World) (K : PySem.W.Frag) (mg : Str → Option Value) (bs : Heap) (k : Nat) (f : Addr) (fd : FuncData) (ps : List Str) (sp : Sp) : Prop where
  ln : ∀ vs H Q E, sp vs H Q E → vs.length = ps.length
  go : ∀ (A : Around) (outer : List Env) (s : Shared) (H : Hp) (args : Args) (us : List Value) (vs : List V) (Q : VK) (E : XK), A.guards = some [] → Room k A →
    Env0 pr wd K mg bs A outer s H → BindsTo s fd args (ps.zip us) → Vals vs us → sp vs H Q E → codeAny (model pr wd) A (.call (.ref f) args) (CR CX0 outer pr wd H s Q E) s

section
variable {pr : Program} {wd : World} {K : PySem.W.Frag} {mg : Str → Option Value} {bs : Heap} {k j : Nat} {f : Addr} {fd : FuncData} {ps : List Str} {sp : Sp}
theorem FnG.up (F : FnG pr wd K mg bs j f fd ps sp) (h : j ≤ k) : FnG pr wd K mg bs k f fd ps sp :=
  ⟨F.ln, fun A outer s H args us vs Q E hg hr => F.go A outer s H args us vs Q E hg (hr.mono h)⟩

/-- the rule for a def whose body may call repr -/
theorem okG {x qual : Str} {st : Stmt} {N : List Str} (F : Fun K x qual st f fd) (S : FnScope N ps (defScope st)) (ln : ∀ vs H Q E, sp vs H Q E → vs.length = ps.length)
    (hb : ∀ (cdv : Value) (A : Around) (outer : List Env) (s : Shared) (H : Hp) (vs : List V) (Q : VK) (E : XK), A.guards = some [] → Room k (A.deeper (envOfC qual (defScope st) s.heap.objs.size f cdv)) → sp vs H Q E →
      ∃ t, PSs (cxOf CX0 pr wd K mg bs N qual (defScope st) f cdv A outer s H E).nox (defBody st) t ∧ t { nx := fun _ H' => Q .non H', rt := Q } (start N vs) H) : FnG pr wd K mg bs (k + 1) f fd ps sp := by
  obtain ⟨oc, od, kV, doc, pm, an, cdv, ct, osl, rfl, lk, hcd⟩ := F.ex
  refine ⟨ln, fun A outer s H args us vs Q E hg hr e0 hbd r hsp => ?_⟩
  have hlen := ln _ _ _ _ hsp
  have kin : K.In s.heap := e0.mod.kin.keeps fun b o z => (e0.bs b o z).1
  have nolim : s.heap.NoLimit := e0.mod.nolimit.keeps fun b o z => (e0.bs b o z).1
  have kinds : ∀ y ∈ ps.zip us, (defScope st).names.lookup y.1 = some .local ∨ ((defScope st).names.lookup y.1 = some .cell ∧ ((cellsFrom (s.heap.objs.size + 1) (defScope st).names []).lookup y.1).isSome = true) := by
    rintro ⟨n, v⟩ hy
    rcases S.par n (List.of_mem_zip hy).1 with q | q
    · exact Or.inl q
    · exact Or.inr ⟨q, PySem.W.cellsFrom_some _ _ _ (Or.inl q)⟩
  refine codeAny_call_function hr.depth (kin _ _ lk) rfl S.co S.gen rfl (PySem.W.codeRec_of kin hcd) (hbd _ _ _ _ ?_)
  refine wpAny_newFunctionEnv_cells S.kind kinds fun env he s1 xx => ?_
  subst he
  refine ⟨nolim.keeps xx.toInCall.keep, codeAny_func ?_⟩
  obtain ⟨t, ht, hq⟩ := hb cdv A outer s H vs Q E hg (hr.deeper _) hsp
  have I : Inv (cxOf CX0 pr wd K mg bs N qual (defScope st) f cdv A outer s H E) [] (start N vs) H s1 := inv_start S hr.hd e0 hlen r xx
  refine wpAny_mono (ht.nox.run [] s1 (start N vs) H _ I hq) (fun fl s' hs => ?_) fun e s' hs => hs
  cases fl with
  | ret u =>
    obtain ⟨v, σ', H', J, rv, q⟩ := hs
    exact ⟨v, H', J.os, J.bare, J.base, J.hok, rv, q⟩
  | next =>
    obtain ⟨σ', H', J, q⟩ := hs
    exact ⟨V.non, H', J.os, J.bare, J.base, J.hok, rfl, q⟩
  | brk =>
    obtain ⟨σ', H', J, q⟩ := hs
    exact q.elim
  | cont =>
    obtain ⟨σ', H', J, q⟩ := hs
    exact q.elim

variable {X : Cx} {dvs : List V} {ds : List Value} {E : XK} {x : Str} {p pos : Pos} {e : Expr} {es : List Expr} {t : TA}
/-- f(e, ..) -/
theorem callG (hg : X.A.guards = some []) (F : FnG X.prog X.w X.K X.mg X.base k f fd ps sp) (hr : Room k X.A) (gl : Gl X x) (hm : X.mg x = some (.ref f)) (hk : PySem.W.keepIn X.K (.ref f) = true) (hb : Binds X.K fd ps [])
    (ha : PA X (e :: es) t) (hdb : (x == ("__debug__" : Str)) = false := by decide) (he : starEach (e :: es) X.env = (false, eval e X.env) :: starEach es X.env := by rfl) (hpl : (backTo pos (starEach es X.env)).any (·.1) = false := by rfl) :
    PE X (.Call (.Name x p) (e :: es) [] pos) (tCall sp [] E0 t) := by
  constructor
  intro pins s σ H Q I h
  refine wpAny_Call_Name_kw (ld_glob I gl hm ?_ hdb)
  refine PySem.W.callWith_K (h₀ := X.base) I.ok.mod.kin hk (thn (ha.run pos pins s σ H _ I h) ?_) he hpl
  rintro us s1 ⟨vs, H1, I1, r, q⟩
  refine ⟨I1.kIn, ?_⟩
  have q' : sp vs H1 Q E0 := by simpa using q
  have hl : us.length = ps.length := by rw [← r.length]; exact F.ln _ _ _ _ q'
  have hbd : BindsTo s1 fd ⟨us, []⟩ (ps.zip us) := by
    have z := hb s1 us I1.kIn (by rw [List.append_nil]; exact hl)
    rwa [List.append_nil] at z
  refine wpAny_call (codeAny_mono (F.go X.A X.stack s1 H1 ⟨us, []⟩ us vs Q E0 hg hr I1.env0 hbd r q') fun rr s' hq => ?_)
  cases rr with
  | error e => exact hq.elim
  | ok fl =>
    cases fl with
    | ret u => exact I1.after hq
    | next => exact hq.elim
    | brk => exact hq.elim
    | cont => exact hq.elim
end

section
variable {pr : Program} {wd : World} {K : PySem.W.Frag} {mg mb : Str → Option Value} {k : Nat} {fa a : Addr} {fd : FuncData} {x : Str} {sp : Sp} {s₁ : Shared} {vs : List Value} {ns : List Int}
theorem headG (kx : K.In s₁.heap) (nsg : s₁.heap.Ns mainGlobals mg) (nsb : s₁.heap.Ns builtinsNs mb) (hbb : ∀ x : Str, x ≠ "__name__" → mb x = bootBuiltins x) (nolim : s₁.heap.NoLimit) (nogen : s₁.gens = #[])
    (ha : s₁.heap.get? a = some { cls := .type "list", data := .seq vs.toArray }) (hi : IntsAre vs ns) (hl : ns.length ≤ sizeLine) (hr : Room k callerA)
    (sm : SM s₁.heap) (F : ∀ bs : Heap, SM bs → K.In bs → bs.Ns mainGlobals mg → FnG pr wd K mg bs k fa fd [x] sp) (hbind : ∀ (s : Shared) (u : Value), BindsTo s fd ⟨[u], []⟩ [(x, u)])
    (hsp : ∀ H : Hp, Only H → SqL K H a (ns.map V.int) → sp [.ref a] H (fun v _ => v = .bl true) E0) :
    codeAny (model pr wd) callerA (.call (.ref fa) ⟨[.ref a], []⟩) (fun r s' => r = .ok (.ret (.bool true)) ∧ OldK s₁.heap s'.heap ∧ s'.os = s₁.os ∧ AllBare s'.gens) s₁ := by
  have rv := vals_ints hi
  have key : ∀ H : Hp, Only H → SqL K H a (ns.map V.int) → HOk pr wd H s₁.heap → (∀ b, H b ≠ none → b = a) → (H a ≠ none → K.lookup a = none) →
      codeAny (model pr wd) callerA (.call (.ref fa) ⟨[.ref a], []⟩) (fun r s' => r = .ok (.ret (.bool true)) ∧ OldK s₁.heap s'.heap ∧ s'.os = s₁.os ∧ AllBare s'.gens) s₁ := by
    intro H hO hS hok only hK
    have dictFree : ∀ {b : Addr} {o : Obj} {es : Array DictEntry} {ep : Nat}, s₁.heap.get? b = some o → o.data = .dict es ep → H b = none := by
      intro b o es ep e d
      cases q : H b with
      | none => rfl
      | some u =>
        obtain rfl : b = a := only b (by rw [q]; simp)
        rw [ha] at e
        cases e
        have d' : Data.seq vs.toArray _ = Data.dict es ep := d
        cases d'
    have nsT : ∀ {b : Addr} {m : Str → Option Value}, s₁.heap.Ns b m → (hidT s₁.heap H).Ns b m := by
      rintro b m ⟨o, es, ep, e, d, r⟩
      exact ⟨o, es, ep, hidT_get e (dictFree e d), d, r⟩
    have kT : K.In (hidT s₁.heap H) := by
      intro b o e
      refine hidT_get (kx b o e) ?_
      cases q : H b with
      | none => rfl
      | some u =>
        obtain rfl : b = a := only b (by rw [q]; simp)
        rw [hK (by rw [q]; simp)] at e
        cases e
    have md : Mod K mg (hidT s₁.heap H) := ⟨kT, nsT nsg, ⟨mb, nsT nsb, hbb⟩, nolim.elim fun mc h => ⟨mc, nsT h.1, h.2⟩⟩
    have e0 : Env0 pr wd K mg (hidT s₁.heap H) callerA [] s₁ H :=
      ⟨rfl, md, fun b o e => of_hidT e, Nat.le_of_eq (hidT_size _ _), trivial, fun b hb => (List.not_mem_nil (show b ∈ ([] : List Addr) from hb)).elim, hok, .of_eq nogen⟩
    have smT : SM (hidT s₁.heap H) := by
      obtain ⟨o, es, n, e, d⟩ := sm
      exact ⟨o, es, n, hidT_get e (dictFree e d), d⟩
    have run := (F _ smT kT (nsT nsg)).go callerA [] s₁ H ⟨[.ref a], []⟩ [.ref a] [.ref a] _ _ rfl hr e0 (hbind s₁ (.ref a)) (.cons rfl .nil) (hsp H hO hS)
    refine codeAny_mono run fun r s' h => ?_
    cases r with
    | error e => exact (show False from h).elim
    | ok fl =>
      cases fl with
      | next => exact (show False from h).elim
      | brk => exact (show False from h).elim
      | cont => exact (show False from h).elim
      | ret u =>
        obtain ⟨v, H', os, bare, un, hok', r', q⟩ := h
        obtain rfl : v = .bl true := q
        obtain rfl : u = Value.bool true := r'
        refine ⟨rfl, OldK.of_keep fun b o e => ?_, os, bare⟩
        cases q : H b with
        | none => exact un.keep b o e q (fun z => List.not_mem_nil (show b ∈ ([] : List Addr) from z)) (by simp)
        | some u =>
          rcases hO b with z | ⟨ob, xs, z⟩
          · rw [q] at z
            cases z
          · obtain ⟨e1, _⟩ := hok b _ z
            obtain ⟨e2, _⟩ := hok' b _ (un.frzs b ob _ z)
            rw [e] at e1
            cases e1
            exact e2
  cases hk : K.lookup a with
  | some o =>
    have e := kx a o hk
    rw [ha] at e
    cases e
    refine key (fun _ => none) (fun _ => .inl rfl) (.inr ⟨_, vs.toArray, _, hk, rfl, rfl, rfl, by rw [List.size_toArray, hi.length]; exact hl, by simpa using rv⟩) ?_ (fun b z => absurd rfl z) fun z => absurd rfl z
    intro b u z
    exact absurd (show (none : Option HO) = some u from z) (by simp)
  | none =>
    refine key (fun b => if b = a then some (.frz { cls := .type "list", data := .seq vs.toArray } (.lst (ns.map V.int))) else none) ?_ (.inl (.inr ⟨_, if_pos rfl⟩)) ?_ ?_ fun _ => hk
    · intro b
      by_cases hb : b = a
      · exact .inr ⟨_, _, if_pos hb⟩
      · exact .inl (if_neg hb)
    · intro b u z
      by_cases hb : b = a
      · have z' := (if_pos hb).symm.trans z
        cases z'
        subst hb
        exact ⟨ha, by rw [List.length_map]; exact hl, vs, _, rv, ha⟩
      · exact absurd ((if_neg hb).symm.trans z) (by simp)
    · intro b z
      by_cases hb : b = a
      · exact hb
      · exact absurd (if_neg hb) z
end

/-- the goal behind k_head, from the law's promise -/
theorem walkG {l : PySem.W.OpenLaw} {n k : Nat} {q : Program} {loose : List Str} {XP : (Str → Option Value) → Heap → Prop} {YP : World → Heap → Prop} {d : DefRec} {K : Params → PySem.W.Frag} {sp : PySem.W.Frag → Sp} {x : Str}
    (hi : importsNone q = true) (hn : l.most = some n) (hn2 : n ≤ sizeLine) (nodef : d.params.defaults = []) (hr : Room k callerA) (hY : ∀ (w : World) (h : Heap), YP w h → (K w.params).In h)
    (F : ∀ (w : World) (mg : Str → Option Value) (fa : Addr) (h : Heap), (K w.params).In h → h.Ns mainGlobals mg → mg d.name = some (.ref fa) → ∃ fd : FuncData, (∀ (s : Shared) (u : Value), BindsTo s fd ⟨[u], []⟩ [(x, u)]) ∧
      ∀ bs : Heap, SM bs → (K w.params).In bs → bs.Ns mainGlobals mg → FnG l.prog w (K w.params) mg bs k fa fd [x] (sp (K w.params)))
    (hsp : ∀ (K : PySem.W.Frag) (H : Hp) (a : Addr) (ns : List Int), ns.length ≤ n → Only H → SqL K H a (ns.map V.int) → sp K [.ref a] H (fun v _ => v = .bl true) E0) :
    PySem.W.WalkO q loose XP YP l.row.toRowW d [] (fun f vs => PySem.call f vs) := by
  refine Att.attach_call hn nodef ?_
  intro w s₀ s₁ mg mb fa o pm cd doc a vs ns G Y ho hd hcd hmg hobj hints hlen hg
  have kx := hY w _ Y
  obtain ⟨fd, hb, hF⟩ := F w mg fa _ kx G.T.g hmg
  have sm : SM s₁.heap := by
    obtain ⟨mm, ⟨o, es, ep, e, d, _⟩, _⟩ := (G.T.seer hi).mods
    exact ⟨o, es, ep, e, d⟩
  exact headG kx G.T.g G.T.b G.T.builtins G.T.nolimit hg hobj hints (Nat.le_trans hlen hn2) hr sm hF hb fun H hO hS => hsp _ H a ns hlen hO hS
end AL
/-! AL2: data with dicts (Dd), repr of it, == of two lists, dicts or data that are equal. -/
namespace AL
open PySem PySem.Spec PyProof.Rows L2

def kD : Key → PyData
  | .inl i => .int i
  | .inr x => .str x
mutual
/-- the value is this data: as Dp, and dicts by their keys in order -/
inductive Dd (K : PySem.W.Frag) (H : Hp) : V → PyData → Prop
  | non : Dd K H .non .none
  | bl (b : Bool) : Dd K H (.bl b) (.bool b)
  | int (i : Int) : Dd K H (.int i) (.int i)
  | str (x : Str) : Dd K H (.str x) (.str x)
  | lst {a : Addr} {xs : List V} {ds : List PyData} : SqL K H a xs → DdA K H xs ds → Dd K H (.ref a) (.list ds)
  | tup {a : Addr} {xs : List V} {ds : List PyData} : SqT K H a xs → DdA K H xs ds → Dd K H (.ref a) (.tuple ds)
  | dic {a : Addr} {kvs : List (Key × V)} {ds : List PyData} : H a = some (.dK kvs) → DdA K H (kvs.map (·.2)) ds → Dd K H (.ref a) (.dict ((kvs.map fun p => kD p.1).zip ds))
inductive DdA (K : PySem.W.Frag) (H : Hp) : List V → List PyData → Prop
  | nil : DdA K H [] []
  | cons {v : V} {vs : List V} {d : PyData} {ds : List PyData} : Dd K H v d → DdA K H vs ds → DdA K H (v :: vs) (d :: ds)
end
theorem DdA.length {K : PySem.W.Frag} {H : Hp} : ∀ {vs : List V} {ds : List PyData}, DdA K H vs ds → vs.length = ds.length
  | [], [], _ => rfl
  | _ :: _, _ :: _, .cons _ t => congrArg (· + 1) (DdA.length t)

section
variable {X : Cx} {pins : List (Addr × Obj)} {σ : L2.St} {H : Hp} {s : Shared}
theorem not_modules (I : Inv X pins σ H s) (sm : SM X.base) {a : Addr} {xs : List V} (h : SqL X.K H a xs) : a ≠ sysModules := by
  rintro rfl
  obtain ⟨o, es, n, e, d⟩ := sm
  obtain ⟨e1, e2⟩ := I.bs _ _ e
  obtain ⟨its, rv, ⟨o', n', ho, hc, _, hd⟩, _⟩ := I.list h
  rw [e1] at ho
  cases ho
  rw [d] at hd
  cases hd
theorem key_read {h : Heap} {k : Key} {u : Value} (hk : keyIs k u = true) : Reads h u (kD k) [] := by
  rcases keyIs_shape hk with ⟨i, t, rfl, rfl⟩ | ⟨x, t, rfl, rfl⟩
  · exact .int i t
  · exact .str x t
theorem keys_read {h : Heap} {P : Program} {w : World} {es : List DictEntry} {vs : List (Key × Value)} (hp : Pairs (mixKind P w) es vs) : ∀ {kvs : List (Key × V)}, KV kvs vs → ReadsAll h (es.map (·.key)) (kvs.map fun p => kD p.1) [] := by
  induction hp with
  | nil =>
    intro kvs r
    cases r
    exact .nil
  | cons h1 _ _ ih =>
    intro kvs r
    cases r with
    | cons r1 r2 =>
      refine .cons (as := []) (bs := []) ?_ (ih r2)
      show Reads h _ (kD _) []
      rw [r1.1]
      exact key_read h1
theorem pairs_vals {P : Program} {w : World} {es : List DictEntry} {vs : List (Key × Value)} (hp : Pairs (mixKind P w) es vs) : ∀ {kvs : List (Key × V)}, KV kvs vs → Vals (kvs.map (·.2)) (es.map (·.val)) := by
  induction hp with
  | nil =>
    intro kvs r
    cases r
    exact .nil
  | cons _ h1 _ ih =>
    intro kvs r
    cases r with
    | cons r1 r2 =>
      refine .cons ?_ (ih r2)
      show L2.RelV _ (DictEntry.val _)
      rw [h1]
      exact r1.2
mutual
theorem Dd.reads (I : Inv X pins σ H s) (sm : SM X.base) : ∀ {v : V} {d : PyData}, Dd X.K H v d → ∀ (u : Value), RelV v u → ∃ as, Reads s.heap u d as ∧ sysModules ∉ as
  | _, _, .non, u, r => by
    obtain rfl : u = .none := r
    exact ⟨_, .none, by simp⟩
  | _, _, .bl b, u, r => by
    obtain rfl : u = .bool b := r
    exact ⟨_, .bool b, by simp⟩
  | _, _, .int i, u, r => by
    obtain ⟨t, rfl⟩ := r
    exact ⟨_, .int i t, by simp⟩
  | _, _, .str x, u, r => by
    obtain ⟨t, rfl⟩ := r
    exact ⟨_, .str x t, by simp⟩
  | _, _, .lst hs ha, u, r => by
    cases r
    obtain ⟨its, rv, ⟨o, n, ho, hc, _, hd⟩, _⟩ := I.list hs
    obtain ⟨as, hr, hn⟩ := DdA.reads I sm ha its rv
    refine ⟨_, .list ho hc hd hr, fun z => ?_⟩
    rcases List.mem_cons.mp z with z | z
    · exact not_modules I sm hs z.symm
    · exact hn z
  | _, _, .tup hs ha, u, r => by
    cases r
    obtain ⟨its, rv, ⟨o, ho, hc, n, hd⟩, _⟩ := I.tuple hs
    obtain ⟨as, hr, hn⟩ := DdA.reads I sm ha its rv
    exact ⟨_, .tuple ho hc hd hr, hn⟩
  | _, _, .dic (kvs := kvs) (ds := ds) ha hd, u, r => by
    cases r
    obtain ⟨_, na, vs, kv, ob, es, ep, eo, ex, ed, _, hp, _⟩ := I.hok _ _ ha
    have q1 := keys_read (h := s.heap) hp kv
    have hl : (kvs.map fun p => kD p.1).length = ds.length := by rw [← hd.length]; simp
    obtain ⟨bs, q2, n2⟩ := DdA.reads I sm hd _ (pairs_vals hp kv)
    refine ⟨_, .dict (kvs := (kvs.map fun p => kD p.1).zip ds) eo ex.1 ed (as := []) (bs := bs) ?_ ?_, fun z => ?_⟩
    · rw [List.map_fst_zip (Nat.le_of_eq hl)]
      exact q1
    · rw [List.map_snd_zip (Nat.le_of_eq hl.symm)]
      exact q2
    · rcases List.mem_cons.mp z with z | z
      · rw [← z] at na
        simp at na
      · exact n2 (by simpa using z)
theorem DdA.reads (I : Inv X pins σ H s) (sm : SM X.base) : ∀ {vs : List V} {ds : List PyData}, DdA X.K H vs ds → ∀ (us : List Value), Vals vs us → ∃ as, ReadsAll s.heap us ds as ∧ sysModules ∉ as
  | _, _, .nil, us, r => by
    cases r
    exact ⟨_, .nil, by simp⟩
  | _, _, .cons h1 h2, us, r => by
    cases r with
    | cons r1 r2 =>
      obtain ⟨as, q1, n1⟩ := Dd.reads I sm h1 _ r1
      obtain ⟨bs, q2, n2⟩ := DdA.reads I sm h2 _ r2
      exact ⟨_, .cons q1 q2, fun z => (List.mem_append.mp z).elim n1 n2⟩
end
end

section
variable {X : Cx}
/-- repr of data -/
def rRep (K : PySem.W.Frag) : List V → Hp → VK → Prop := fun xs H Q => ∃ v d, xs = [v] ∧ Dd K H v d ∧ d.showable = true ∧ d.depth ≤ 60 ∧ d.shown.length ≤ sizeLine ∧ Q (.str d.shown) H
theorem call_rep (hg : X.A.guards = some []) (hu : X.A.units + 64 < cLine) (sm : SM X.base) : CallR X (.builtin "repr") (rRep X.K) := by
  intro pins s σ H xs us Q I r h
  obtain ⟨v, d, rfl, hd, hs, hdp, hz, q⟩ := h
  obtain ⟨u, rfl, rv⟩ := vals1 r
  obtain ⟨as, hr, hn⟩ := Dd.reads I sm hd u rv
  cases hd with
  | non =>
    obtain rfl : u = .none := rv
    exact PySem.P.repr_of_none ⟨.str _, H, I.tok _, ⟨_, rfl⟩, by simpa only [PyData.shown] using q⟩
  | bl b =>
    obtain rfl : u = .bool b := rv
    exact PySem.P.repr_of_bool ⟨.str _, H, I.tok _, ⟨_, rfl⟩, by simpa only [PyData.shown] using q⟩
  | int i =>
    obtain ⟨t, rfl⟩ := rv
    exact PySem.P.repr_of_int (by simpa [PyData.showable] using hs) ⟨.str _, H, I.tok _, ⟨_, rfl⟩, by simpa only [PyData.shown] using q⟩
  | str x =>
    obtain ⟨t, rfl⟩ := rv
    exact PySem.P.repr_of_str ⟨.str _, H, I.tok _, ⟨_, rfl⟩, by simpa only [PyData.shown] using q⟩ (by simpa only [PyData.shown] using hz)
  | lst _ _ =>
    cases rv
    exact repr_of_reads' hr hs (fun _ => hn) hg (by omega) (fun _ _ e => e) (fun h' u tk hk => ⟨.str _, H, I.kept hk, ⟨_, rfl⟩, q⟩) hz
  | tup _ _ =>
    cases rv
    exact repr_of_reads' hr hs (fun _ => hn) hg (by omega) (fun _ _ e => e) (fun h' u tk hk => ⟨.str _, H, I.kept hk, ⟨_, rfl⟩, q⟩) hz
  | dic _ _ =>
    cases rv
    exact repr_of_reads' hr hs (fun _ => hn) hg (by omega) (fun _ _ e => e) (fun h' u tk hk => ⟨.str _, H, I.kept hk, ⟨_, rfl⟩, q⟩) hz
end
end AL
/-! AL3: an item of a list, read for xs[i] += e; the bag of draws. -/
namespace AL
open PySem PySem.Spec PyProof.Rows L2

section
variable {X : Cx}
theorem get_list : PGet X (rIxL X.K) := by
  intro pins s σ H o i ov iv Q I ro ri h
  obtain ⟨p, xs, k, z, rfl, rfl, hq, he, q⟩ := h
  cases ro
  obtain ⟨t, rfl⟩ := ri
  obtain ⟨its, r, pl, hz⟩ := I.list hq
  obtain ⟨j, h1, h2, h3, h4, h5⟩ := atI_get he
  obtain ⟨w, ew, rw'⟩ := r.get h2
  have hl := r.length
  have hn := line63
  have fin : EP X pins σ Q w s := ⟨z, H, I, rw', q⟩
  by_cases h0 : 0 ≤ k
  · have hj : k.toNat = j := by
      rw [seqIndex_of h0 h5] at h1
      exact Option.some.inj h1
    exact wpAny_getItem_list pl.isList h0 (by omega) (by rw [hj]; simpa using ew) fin
  · have hj : (k + (its.toArray.size : Int)).toNat = j := by
      rw [seqIndex_neg (by omega) h4] at h1
      rw [List.size_toArray, ← hl]
      exact Option.some.inj h1
    exact wpAny_getItem_list_neg pl.isList (by omega) (by rw [List.size_toArray] <;> omega) (by omega) (by rw [hj]; simpa using ew) fin

/-- two rules for one operation -/
theorem OpR.or {f : Value → Value → Sem Value} {r r' : R2} (h : OpR X f r) (h' : OpR X f r') : OpR X f (fun x y H Q => r x y H Q ∨ r' x y H Q) := by
  intro pins s σ H x y v u Q I rx ry q
  rcases q with q | q
  · exact h pins s σ H x y v u Q I rx ry q
  · exact h' pins s σ H x y v u Q I rx ry q
end

/-- the bag at b: the rest of a great number, the seed, how many are taken, the numbers -/
structure Bag (H : Hp) (b l : Addr) (c sd : Int) (i : Nat) (ns : List Int) : Prop where
  hb : H b = some (.lst [.int c, .int sd, .int (i : Int), .ref l])
  hl : H l = some (.lst (ns.map V.int))
  nz : ∀ n ∈ ns, 0 ≤ n
  c0 : 0 ≤ c
  s0 : 0 ≤ sd
  s1 : sd < 2147483647
def BagS (H : Hp) (b l : Addr) : Prop := ∃ c sd i ns, Bag H b l c sd i ns
theorem Bag.ne {H : Hp} {b l : Addr} {c sd : Int} {i : Nat} {ns : List Int} (B : Bag H b l c sd i ns) : l ≠ b := by
  intro e
  have h1 := B.hl
  rw [e, B.hb] at h1
  injection h1 with h1
  injection h1 with h1
  cases ns with
  | nil => cases h1
  | cons a r =>
    cases r with
    | nil => cases h1
    | cons a r =>
      cases r with
      | nil => cases h1
      | cons a r =>
        cases r with
        | nil => cases h1
        | cons a r =>
          simp at h1
theorem Bag.put {H : Hp} {b l : Addr} {c sd c' sd' : Int} {i i' : Nat} {ns : List Int} (B : Bag H b l c sd i ns) (h1 : 0 ≤ c') (h2 : 0 ≤ sd') (h3 : sd' < 2147483647) :
    Bag (upd H b (.lst [.int c', .int sd', .int (i' : Int), .ref l])) b l c' sd' i' ns :=
  ⟨upd_same, by rw [upd_ne B.ne]; exact B.hl, B.nz, h1, h2, h3⟩
/-- what a draw promises: a number below m; nothing but the bag has changed -/
def spTake : Sp := fun vs H Q _ => ∃ (b l : Addr) (m : Int), vs = [.ref b, .int m] ∧ BagS H b l ∧ 0 < m ∧ m < 1073741824 ∧
  ∀ (r : Int) (H' : Hp), 0 ≤ r → r < m → BagS H' b l → (∀ a, a ≠ b → H' a = H a) → Q (.int r) H'
/-- == of these two is True -/
def EqOk (K : PySem.W.Frag) (H : Hp) (x y : V) : Prop := (∃ d, Dp K H x d ∧ Dp K H y d ∧ SeqAt.shaped d = true) ∨ ∃ n, n ≤ 60 ∧ EqR K H (EqV K H n) x y
/-- repr of this data is asked of a size that the machine serves -/
def RepOk (d : PyData) : Prop := d.showable = true ∧ d.depth ≤ 60 ∧ d.shown.length ≤ sizeLine
def rEqOk (K : PySem.W.Frag) : R2 := fun x y H Q => EqOk K H x y ∧ Q (.bl true) H
theorem op_eqOk {X : Cx} (hu : X.A.units + 64 < cLine) : OpR X (compareOp .Eq) (rEqOk X.K) := by
  intro pins s σ H x y v u Q I rx ry h
  obtain ⟨h | ⟨n, hn, h⟩, q⟩ := h
  · obtain ⟨d, h1, h2, hs⟩ := h
    exact op_eqD hu pins s σ H x y v u Q I rx ry ⟨d, d, h1, h2, hs, hs, by rw [SeqAt.eqv_refl d (SeqAt.canLay_of_shaped hs)]; exact q⟩
  · exact op_eqV hu pins s σ H x y v u Q I rx ry ⟨n, hn, h, q⟩
/-- what the comparison of two values that are the same data promises -/
def spAlike (K : PySem.W.Frag) : Sp := fun vs H Q _ => ∃ (x y : V) (d : PyData), vs = [x, y] ∧ Dd K H x d ∧ Dd K H y d ∧ EqOk K H x y ∧ RepOk d ∧ Q (.bl true) H
/-- a new bag -/
def spBag (K : PySem.W.Frag) : Sp := fun vs H Q _ => ∃ (a : Addr) (ns : List Int), vs = [.ref a] ∧ SqL K H a (ns.map V.int) ∧ ns.length ≤ 63 ∧
  ∀ (b l : Addr) (H' : Hp), H b = none → H l = none → BagS H' b l → (∀ a o, H a = some o → H' a = some o) → Q (.ref b) H'
end AL
/-! AL4: things of k11: names, kinds, near ones, integers, truths, None, lists, tuples, dicts of a text. -/
namespace AL
open PySem PySem.Spec PyProof.Rows L2

theorem repOk_of {d : PyData} (h1 : d.showable = true) (h2 : d.depth ≤ 60) (h3 : d.leavesShort 1950 = true) (h4 : d.weight ≤ 8000) : RepOk d := by
  refine ⟨h1, h2, ?_⟩
  have h := PyData.shown_le 1950 (by decide) d h3
  have e : sizeLine = 16777216 := rfl
  have e2 : (1950 + 2) * d.weight ≤ 1952 * 8000 := Nat.mul_le_mul_left _ h4
  omega

/-- all that was tracked stays -/
def Ext (H H' : Hp) : Prop := ∀ a o, H a = some o → H' a = some o
theorem Ext.refl (H : Hp) : Ext H H := fun _ _ h => h
theorem Ext.trans {H H1 H2 : Hp} (a : Ext H H1) (b : Ext H1 H2) : Ext H H2 := fun c o h => b c o (a c o h)
theorem Ext.new {H H' : Hp} {p : Addr} {o : HO} (e : Ext H H') (h : H' p = none) : Ext H (upd H' p o) := fun a u q => by
  rw [upd_ne (ne_of_none (e a u q) h)]
  exact e a u q
/-- an object that H does not know may change -/
theorem Ext.put {H H' : Hp} {p : Addr} {o : HO} (e : Ext H H') (h : H p = none) : Ext H (upd H' p o) := fun a u q => by
  rw [upd_ne (ne_of_none q h)]
  exact e a u q
theorem Ext.back {H H' : Hp} {p : Addr} (e : Ext H H') (h : H' p = none) : H p = none := by
  cases q : H p with
  | none => rfl
  | some o =>
    rw [e p o q] at h
    cases h
theorem Ext.l {K : PySem.W.Frag} {H H' : Hp} {a : Addr} {xs : List V} (e : Ext H H') (h : SqL K H a xs) : SqL K H' a xs := by
  rcases h with (h | ⟨o, h⟩) | h
  · exact .inl (.inl (e _ _ h))
  · exact .inl (.inr ⟨o, e _ _ h⟩)
  · exact .inr h
theorem Ext.t {K : PySem.W.Frag} {H H' : Hp} {a : Addr} {xs : List V} (e : Ext H H') (h : SqT K H a xs) : SqT K H' a xs := by
  rcases h with (h | ⟨o, h⟩) | h
  · exact .inl (.inl (e _ _ h))
  · exact .inl (.inr ⟨o, e _ _ h⟩)
  · exact .inr h
mutual
theorem Dd.ext {K : PySem.W.Frag} {H H' : Hp} (e : Ext H H') : ∀ {v : V} {d : PyData}, Dd K H v d → Dd K H' v d
  | _, _, .non => .non
  | _, _, .bl b => .bl b
  | _, _, .int i => .int i
  | _, _, .str x => .str x
  | _, _, .lst h r => .lst (e.l h) (DdA.ext e r)
  | _, _, .tup h r => .tup (e.t h) (DdA.ext e r)
  | _, _, .dic h r => .dic (e _ _ h) (DdA.ext e r)
theorem DdA.ext {K : PySem.W.Frag} {H H' : Hp} (e : Ext H H') : ∀ {vs : List V} {ds : List PyData}, DdA K H vs ds → DdA K H' vs ds
  | _, _, .nil => .nil
  | _, _, .cons h r => .cons (Dd.ext e h) (DdA.ext e r)
end
/-- behind a draw: all but the bag's own list -/
def ExtB (b : Addr) (H H' : Hp) : Prop := ∀ a o, a ≠ b → H a = some o → H' a = some o

/-- a text of at most n signs, all of them ASCII -/
structure Tx (n : Nat) (x : Str) : Prop where
  ln : x.length ≤ n
  as : ∀ c ∈ x.cps.toList, c < 128
theorem Tx.up {n m : Nat} {x : Str} (t : Tx n x) (h : n ≤ m) : Tx m x := ⟨Nat.le_trans t.ln h, t.as⟩
theorem Tx.app {n m : Nat} {x y : Str} (t : Tx n x) (u : Tx m y) : Tx (n + m) (x ++ y) := by
  refine ⟨?_, fun c hc => ?_⟩
  · rw [strLen_append]
    exact Nat.add_le_add t.ln u.ln
  · rw [show (x ++ y).cps = x.cps ++ y.cps from rfl, Array.toList_append] at hc
    exact (List.mem_append.mp hc).elim (t.as c) (u.as c)
theorem Tx.line {n : Nat} {x : Str} (t : Tx n x) (h : n ≤ 5000000) : x.length ≤ sizeLine := Nat.le_trans t.ln (Nat.le_trans h (by decide))

inductive ThingV (H : Hp) : V → Prop
  | non : ThingV H .non
  | bl (b : Bool) : ThingV H (.bl b)
  | int (i : Int) (h : i.natAbs.log2 < 300) : ThingV H (.int i)
  | str (x : Str) (h : Tx 60 x) : ThingV H (.str x)
  | lst0 (a : Addr) (h : H a = some (.lst [])) : ThingV H (.ref a)
  | lst1 (a : Addr) (x : Str) (h : H a = some (.lst [.str x])) (t : Tx 60 x) : ThingV H (.ref a)
  | tup1 (a : Addr) (x : Str) (h : H a = some (.tup [.str x])) (t : Tx 60 x) : ThingV H (.ref a)
  | dct1 (a : Addr) (x : Str) (h : H a = some (.dK [(.inr x, .int 1)])) (t : Tx 60 x) : ThingV H (.ref a)
theorem ThingV.ext {H H' : Hp} {v : V} (e : Ext H H') : ThingV H v → ThingV H' v
  | .non => .non
  | .bl b => .bl b
  | .int i h => .int i h
  | .str x h => .str x h
  | .lst0 a h => .lst0 a (e _ _ h)
  | .lst1 a x h t => .lst1 a x (e _ _ h) t
  | .tup1 a x h t => .tup1 a x (e _ _ h) t
  | .dct1 a x h t => .dct1 a x (e _ _ h) t
theorem ThingV.extB {H H' : Hp} {b l : Addr} {c sd : Int} {i : Nat} {ns : List Int} {v : V} (B : Bag H b l c sd i ns) (e : ExtB b H H') : ThingV H v → ThingV H' v
  | .non => .non
  | .bl b => .bl b
  | .int i h => .int i h
  | .str x h => .str x h
  | .lst0 a h => .lst0 a (e _ _ (ne_of h B.hb (by intro z; cases z)) h)
  | .lst1 a x h t => .lst1 a x (e _ _ (ne_of h B.hb (by intro z; cases z)) h) t
  | .tup1 a x h t => .tup1 a x (e _ _ (ne_of h B.hb (by intro z; cases z)) h) t
  | .dct1 a x h t => .dct1 a x (e _ _ (ne_of h B.hb (by intro z; cases z)) h) t
/-- the data that a thing is -/
theorem tx_short {n : Nat} {x : Str} (t : Tx n x) : (PyData.str x).leavesShort 1950 = true := by
  simp only [PyData.leavesShort, List.all_eq_true, decide_eq_true_eq]
  intro c hc
  exact Nat.lt_trans (t.as c hc) (by decide)
theorem tx_weight {n : Nat} {x : Str} (t : Tx n x) : (PyData.str x).weight ≤ n := t.ln
theorem ThingV.data {K : PySem.W.Frag} {H : Hp} {v : V} : ThingV H v → ∃ d, Dd K H v d ∧ RepOk d
  | .non => ⟨_, .non, repOk_of rfl (by decide) rfl (by decide)⟩
  | .bl b => ⟨_, .bl b, repOk_of rfl (by simp [PyData.depth]) rfl (by simp [PyData.weight])⟩
  | .int i h => by
    refine ⟨_, .int i, repOk_of (by simp only [PyData.showable, decide_eq_true_eq]; omega) (by simp [PyData.depth]) ?_ ?_⟩
    · simp only [PyData.leavesShort, decide_eq_true_eq]
      exact Nat.le_trans (int_text_len_1921 (Nat.lt_trans h (by decide))) (by decide)
    · simp only [PyData.weight]
      split <;> omega
  | .str x t => ⟨_, .str x, repOk_of rfl (by simp [PyData.depth]) (tx_short t) (Nat.le_trans (tx_weight t) (by decide))⟩
  | .lst0 a h => ⟨_, .lst (.inl (.inl h)) .nil, repOk_of rfl (by decide) rfl (by decide)⟩
  | .lst1 a x h t => by
    have s := tx_short t
    have z := tx_weight t
    refine ⟨_, .lst (.inl (.inl h)) (.cons (.str x) .nil), repOk_of rfl (by simp [PyData.depth, PyData.depthAll]) ?_ ?_⟩
    · simp only [PyData.leavesShort, PyData.leavesShortAll, Bool.and_true] at s ⊢
      exact s
    · simp only [PyData.weight, PyData.weightAll] at z ⊢
      omega
  | .tup1 a x h t => by
    have s := tx_short t
    have z := tx_weight t
    refine ⟨_, .tup (.inl (.inl h)) (.cons (.str x) .nil), repOk_of rfl (by simp [PyData.depth, PyData.depthAll]) ?_ ?_⟩
    · simp only [PyData.leavesShort, PyData.leavesShortAll, Bool.and_true] at s ⊢
      exact s
    · simp only [PyData.weight, PyData.weightAll] at z ⊢
      omega
  | .dct1 a x h t => by
    have s := tx_short t
    have z := tx_weight t
    refine ⟨_, .dic h (.cons (.int 1) .nil), repOk_of rfl (by simp [kD, PyData.depth, PyData.depthKv]) ?_ ?_⟩
    · show ((PyData.str x).leavesShort 1950 && (PyData.int 1).leavesShort 1950 && true) = true
      rw [s]
      rfl
    · show (PyData.dict [(.str x, .int 1)]).weight ≤ 8000
      simp only [PyData.weight, PyData.weightKv] at z ⊢
      have : (1 : Int).natAbs.log2 = 0 := by decide
      rw [this]
      simp
      omega
theorem kb_NoneType_int : kitB "NoneType" "int" = some false := by decide +kernel
theorem kb_NoneType_bool : kitB "NoneType" "bool" = some false := by decide +kernel
theorem kb_NoneType_str : kitB "NoneType" "str" = some false := by decide +kernel
theorem kb_bool_int : kitB "bool" "int" = some true := by decide +kernel
theorem kb_bool_bool : kitB "bool" "bool" = some true := by decide +kernel
theorem kb_bool_str : kitB "bool" "str" = some false := by decide +kernel
theorem kb_int_int : kitB "int" "int" = some true := by decide +kernel
theorem kb_int_bool : kitB "int" "bool" = some false := by decide +kernel
theorem kb_int_str : kitB "int" "str" = some false := by decide +kernel
theorem kb_str_int : kitB "str" "int" = some false := by decide +kernel
theorem kb_str_bool : kitB "str" "bool" = some false := by decide +kernel
theorem kb_str_str : kitB "str" "str" = some true := by decide +kernel
theorem kb_list_int : kitB "list" "int" = some false := by decide +kernel
theorem kb_list_bool : kitB "list" "bool" = some false := by decide +kernel
theorem kb_list_str : kitB "list" "str" = some false := by decide +kernel
theorem kb_tuple_int : kitB "tuple" "int" = some false := by decide +kernel
theorem kb_tuple_bool : kitB "tuple" "bool" = some false := by decide +kernel
theorem kb_tuple_str : kitB "tuple" "str" = some false := by decide +kernel
theorem kb_dict_int : kitB "dict" "int" = some false := by decide +kernel
theorem kb_dict_bool : kitB "dict" "bool" = some false := by decide +kernel
theorem kb_dict_str : kitB "dict" "str" = some false := by decide +kernel
inductive Ty3 where | I | B | S
def Ty3.nm : Ty3 → String
  | .I => "int"
  | .B => "bool"
  | .S => "str"
def tyB : V → Ty3 → Bool
  | .int _, .I => true
  | .bl _, .I => true
  | .bl _, .B => true
  | .str _, .S => true
  | _, _ => false
/-- isinstance(thing, int | bool | str) -/
theorem ThingV.isi {K : PySem.W.Frag} {H : Hp} {v : V} (h : ThingV H v) (m : Ty3) : ∃ t, TyX K H v t ∧ PySem.W.kitOne K t (.type m.nm) = some (tyB v m) := by
  cases h with
  | non => exact ⟨_, .base .non, by cases m <;> first | exact kit_ty kb_NoneType_int | exact kit_ty kb_NoneType_bool | exact kit_ty kb_NoneType_str⟩
  | bl b => exact ⟨_, .base (.bl b), by cases m <;> first | exact kit_ty kb_bool_int | exact kit_ty kb_bool_bool | exact kit_ty kb_bool_str⟩
  | int i _ => exact ⟨_, .base (.int i), by cases m <;> first | exact kit_ty kb_int_int | exact kit_ty kb_int_bool | exact kit_ty kb_int_str⟩
  | str x _ => exact ⟨_, .base (.str x), by cases m <;> first | exact kit_ty kb_str_int | exact kit_ty kb_str_bool | exact kit_ty kb_str_str⟩
  | lst0 a h => exact ⟨_, .base (.lst h), by cases m <;> first | exact kit_ty kb_list_int | exact kit_ty kb_list_bool | exact kit_ty kb_list_str⟩
  | lst1 a x h _ => exact ⟨_, .base (.lst h), by cases m <;> first | exact kit_ty kb_list_int | exact kit_ty kb_list_bool | exact kit_ty kb_list_str⟩
  | tup1 a x h _ => exact ⟨_, .base (.tup h), by cases m <;> first | exact kit_ty kb_tuple_int | exact kit_ty kb_tuple_bool | exact kit_ty kb_tuple_str⟩
  | dct1 a x h _ => exact ⟨_, .base (.dK h), by cases m <;> first | exact kit_ty kb_dict_int | exact kit_ty kb_dict_bool | exact kit_ty kb_dict_str⟩

/-! the three readings -/
def kindsV : List V := [.str "fixed", .str "stable", .str "changing", .str "effect"]
def isI : V → Bool := fun v => tyB v .I && !tyB v .B
def low (c : Nat) : Bool := decide (97 ≤ c) && decide (c ≤ 122)
def isN : V → Bool
  | .str x => decide (1 ≤ x.length) && decide (x.length ≤ 8) && x.cps.toList.all low
  | _ => false
def isK (v : V) : Bool := tyB v .S && inV v kindsV
end AL
/-! AL5: texts: s * n, their signs, cuts, upper. -/
namespace AL
open PySem PySem.Spec PyProof.Rows L2
theorem op_mulS {X : Cx} : OpR X (binaryOp .Mult) (fun x y H Q => ∃ z n, x = .str z ∧ y = .int n ∧ z.length ≤ 1000 ∧ 0 ≤ n ∧ n ≤ 1000 ∧ Q (.str (Txt.mul z n)) H) := by
  intro pins s σ H x y v u Q I rx ry h
  obtain ⟨z, n, rfl, rfl, h1, h2, h3, q⟩ := h
  obtain ⟨t, rfl⟩ := rx
  obtain ⟨t', rfl⟩ := ry
  exact SB.mul (PyProof.Rows.mulOk_of 1000 1000 h1 (by omega) (by omega) (by decide) (by decide)) fun t2 k => ⟨.str _, H, I.tok k, ⟨_, rfl⟩, q⟩
theorem mem_rep {c : Nat} {a : Array Nat} : ∀ (n : Nat) (acc : Array Nat), c ∈ ((List.replicate n a).foldl (· ++ ·) acc).toList → c ∈ acc.toList ∨ c ∈ a.toList
  | 0, acc, h => .inl h
  | n + 1, acc, h => by
    rw [List.replicate_succ, List.foldl_cons] at h
    rcases mem_rep n (acc ++ a) h with q | q
    · rw [Array.toList_append, List.mem_append] at q
      exact q
    · exact .inr q
theorem mem_mul {c : Nat} {x : Str} {n : Int} (h : c ∈ (Txt.mul x n).cps.toList) : c ∈ x.cps.toList := by
  unfold Txt.mul at h
  split at h
  · simp [Str.empty] at h
  · split at h
    · exact h
    · rcases mem_rep _ _ h with q | q
      · simp at q
      · exact q
theorem Tx.mul {m k : Nat} {x : Str} {n : Int} (t : Tx m x) (h0 : 0 ≤ n) (hn : n ≤ (k : Int)) : Tx (m * k) (Txt.mul x n) := by
  refine ⟨?_, fun c hc => t.as c (mem_mul hc)⟩
  have e := PyProof.Rows.len_mul x n
  rw [if_neg (by simpa using h0)] at e
  have h1 : ((x.length : Int)) * n ≤ (m : Int) * (k : Int) := Int.mul_le_mul (by have := t.ln; omega) hn h0 (by omega)
  have h2 : ((m * k : Nat) : Int) = (m : Int) * (k : Int) := by simp
  omega
theorem Tx.cut {n : Nat} {x : Str} (t : Tx n x) (lo hi : Option Int) : Tx n (cutS x lo hi) := by
  refine ⟨Nat.le_trans (cutS_length x lo hi) t.ln, fun c hc => ?_⟩
  unfold cutS at hc
  exact t.as c (List.mem_of_mem_drop (List.mem_of_mem_take (by simpa using hc)))
theorem Tx.upper {n : Nat} {x : Str} (t : Tx n x) : Tx n (Txt.upper x) := by
  rw [upper_ascii t.as]
  refine ⟨?_, fun c hc => ?_⟩
  · have : (⟨x.cps.map up1⟩ : Str).length = x.length := by simp [Str.length]
    rw [this]
    exact t.ln
  · simp only [Array.toList_map, List.mem_map] at hc
    obtain ⟨d, hd, rfl⟩ := hc
    have := t.as d hd
    unfold up1
    split <;> omega
/-- a boolean look at written texts -/
def txB (n : Nat) (x : Str) : Bool := decide (x.length ≤ n) && x.cps.toList.all fun c => decide (c < 128)
theorem Tx.of {n : Nat} {x : Str} (h : txB n x = true) : Tx n x := by
  unfold txB at h
  rw [Bool.and_eq_true, decide_eq_true_eq, List.all_eq_true] at h
  exact ⟨h.1, fun c hc => by simpa using h.2 c hc⟩
theorem Tx.all {n : Nat} {xs : List Str} (h : xs.all (txB n) = true) : ∀ x ∈ xs, Tx n x := fun x hx => .of (List.all_eq_true.mp h x hx)
theorem tx_one {c : Nat} (h : c < 128) : Tx 1 ⟨#[c]⟩ := ⟨Nat.le_refl _, fun d hd => by simp at hd; omega⟩

theorem BagS.ext {H H' : Hp} {b l : Addr} (e : Ext H H') : BagS H b l → BagS H' b l
  | ⟨c, sd, i, ns, B⟩ => ⟨c, sd, i, ns, e _ _ B.hb, e _ _ B.hl, B.nz, B.c0, B.s0, B.s1⟩
theorem BagS.some {H : Hp} {b l : Addr} : BagS H b l → ∃ o, H b = some o
  | ⟨_, _, _, _, B⟩ => ⟨_, B.hb⟩
theorem BagS.upd {H : Hp} {b l p : Addr} {o : HO} (nb : p ≠ b) (nl : p ≠ l) : BagS H b l → BagS (L2.upd H p o) b l
  | ⟨c, sd, i, ns, B⟩ => ⟨c, sd, i, ns, by rw [upd_ne nb.symm]; exact B.hb, by rw [upd_ne nl.symm]; exact B.hl, B.nz, B.c0, B.s0, B.s1⟩
theorem ThingV.extS {H H' : Hp} {b l : Addr} {v : V} (e : ExtB b H H') (t : ThingV H v) : BagS H b l → ThingV H' v
  | ⟨_, _, _, _, B⟩ => t.extB B e
theorem ThingV.upd {H : Hp} {p : Addr} {o : HO} {v : V} (n : v ≠ .ref p) : ThingV H v → ThingV (L2.upd H p o) v
  | .non => .non
  | .bl b => .bl b
  | .int i h => .int i h
  | .str x h => .str x h
  | .lst0 a h => .lst0 a (by rw [upd_ne (fun e => n (by rw [e]))]; exact h)
  | .lst1 a x h t => .lst1 a x (by rw [upd_ne (fun e => n (by rw [e]))]; exact h) t
  | .tup1 a x h t => .tup1 a x (by rw [upd_ne (fun e => n (by rw [e]))]; exact h) t
  | .dct1 a x h t => .dct1 a x (by rw [upd_ne (fun e => n (by rw [e]))]; exact h) t
theorem Ext.b {H H' : Hp} {b : Addr} (e : Ext H H') : ExtB b H H' := fun a o _ h => e a o h
theorem ExtB.of {H H' : Hp} {b : Addr} (s : ∀ a, a ≠ b → H' a = H a) : ExtB b H H' := fun a o n h => by rw [s a n]; exact h
theorem ExtB.trans {H H1 H2 : Hp} {b : Addr} (x : ExtB b H H1) (y : ExtB b H1 H2) : ExtB b H H2 := fun a o n h => y a o n (x a o n h)
theorem ExtB.back {H H' : Hp} {b l p : Addr} (x : ExtB b H H') (B : BagS H' b l) (n : H' p = none) : H p = none := by
  by_cases hp : p = b
  · obtain ⟨o, h⟩ := B.some
    rw [hp, h] at n
    cases n
  · cases q : H p with
    | none => rfl
    | some o =>
      rw [x p o hp q] at n
      cases n
theorem ExtB.new {H H' : Hp} {b p : Addr} {o : HO} (x : ExtB b H H') (n : H' p = none) : ExtB b H (upd H' p o) := x.trans ((Ext.refl H').new n).b
theorem ne_bag {H : Hp} {b l p : Addr} (B : BagS H b l) (n : H p = none) : p ≠ b := by
  rintro rfl
  obtain ⟨o, h⟩ := B.some
  rw [h] at n
  cases n
theorem ne_bagl {H : Hp} {b l p : Addr} : BagS H b l → H p = none → p ≠ l
  | ⟨c, sd, i, ns, B⟩, n => by
    rintro rfl
    rw [B.hl] at n
    cases n

/-! cuts of lists -/
theorem cutV_map {α : Type} (f : α → V) (xs : List α) (lo hi : Option Int) : cutV (xs.map f) lo hi = ((xs.drop (HT.sIx xs.length 0 lo)).take (HT.sIx xs.length xs.length hi - HT.sIx xs.length 0 lo)).map f := by
  unfold cutV
  rw [List.map_take, List.map_drop, List.length_map]
end AL
set_option maxHeartbeats 4000000
/-! AL6: errors of one's own as values: made, their fields, isinstance. -/
namespace AL
open PySem PySem.Spec PyProof.Rows L2
section
open PySem.W PySem.Calls
variable {pr : Program} {wd : World} {A : Around} {E : Value → Shared → Prop} {s : Shared} {K : Frag} {x D : Addr} {ox : Obj} {od : Option Obj}
theorem class_found (C : ExcC K D) : findObj K D od "__class__" = some (.bind (.builtin "getset_descriptor.__get__") (.builtin "object.__class__")) := by
  have hc : (clsIn K D).isSome = true := by
    obtain ⟨cd, h, _⟩ := any_some C.hd
    rw [h]
    rfl
  cases od with
  | none => exact findObj_dataN hc C.ha C.hn C.ht
  | some o => exact findObj_data hc C.ha C.hn C.ht
theorem class_asked {Q : Option Value → Shared → Prop} (C : ExcC K D) (X : K.In s.heap) (I : InstAt s.heap x ox D od) (h : Q (some (.ref D)) { s with toks := s.toks + 1 }) :
    wpAny (model pr wd) A (getAttr? (.ref x) "__class__") Q E s := by
  have hf := class_found (od := od) C
  obtain ⟨hp, gs, dr, tk, os⟩ := s
  have L0 := I.type (M := model pr wd)
  have L1 := looks_findIn (M := model pr wd) X C.hg
  have L2 := looks_findIn (M := model pr wd) X C.hk
  have L3 := looks_find (M := model pr wd) X I hf
  have below : Looks (model pr wd) hp (isInstance (.ref x) (.type "BaseException")) true := L0.andThen (looks_subIn X C.hs)
  have n0 : (false && onTheHeap (Value.builtin "BaseException.__getattribute__")) = false := rfl
  have n2 : (Value.builtin "BaseException.__getattribute__" == Value.builtin "object.__getattribute__") = false := by decide +kernel
  have n1 : (onTheHeap (Value.ref D) && Value.builtin "BaseException.__getattribute__" == Value.builtin "object.__getattribute__") = false := by
    rw [n2]
    rfl
  unfold getAttr? getAttrBy? getAttrBy
  refine wpAny_bind (wpAny_mkText (wpAny_bind (wpAny_attempt (wpAny_holding (wpAny_bind (L0.at (wpAny_bind (L1.at ?_))))))))
  show wpAny _ _ (if (onTheHeap (Value.ref D) && Value.builtin "BaseException.__getattribute__" == Value.builtin "object.__getattribute__") = true then _ else _) _ _ _
  rw [n1, if_neg Bool.false_ne_true]
  unfold getAttrByItsOwn hookBefore
  refine wpAny_bind ?_
  rw [if_pos (show onTheHeap (Value.ref D) = true from rfl)]
  refine L2.at (wpAny_bind (wpAny_attempt (wpAny_holding ?_)))
  unfold callGetattribute
  rw [n0, if_neg Bool.false_ne_true]
  unfold boundAndCalled
  rw [PySem.F.excAttr_ValueError.ga.bind (.ref x)]
  refine wpAny_bind (wpAny_pure ?_)
  show wpAny _ _ (call (.builtin "BaseException.__getattribute__") [.ref x, .str "__class__" tk]) _ _ _
  refine wpAny_call (codeAny_call_builtin PySem.F.excAttr_ValueError.ga.plain PySem.F.entry_bexc_ga ?_)
  refine @check_slot (model pr wd) _ _ ⟨hp, gs, dr, tk + 1, os⟩ "BaseException.__getattribute__" "BaseException" "__getattribute__" (.ref x) [.str "__class__" tk] [] _ (by decide +kernel) (by decide +kernel) below (PySem.F.args_bexc_ga (.ref x) (.str "__class__" tk)) ?_
  unfold Builtin.«object.__getattribute__»
  refine wpAny_bind (wpAny_of_eq (a := ((Value.ref x : Value), [Value.str "__class__" tk])) (by first | rfl | (simp only [slotArgs]; rfl)) ?_)
  refine wpAny_bind (wpAny_pure (wpAny_bind (L0.at (wpAny_bind (L3.at ?_)))))
  show wpAny _ _ (holding [Value.builtin "object.__class__"] (call (.builtin "getset_descriptor.__get__") [.builtin "object.__class__", .ref x, .ref D]) >>= ret) _ _ _
  refine wpAny_bind (wpAny_holding (wpAny_call (class_get (s := ⟨hp, gs, dr, tk + 1, os⟩) (ox := ox) (od := od) X I C.hm ?_)))
  refine wpAny_pure ?_
  show wpAny _ _ (handedOut (.ref D)) _ _ _
  rw [handedOut_of (v := .ref D) rfl]
  first | exact wpAny_pure (wpAny_pure h) | exact wpAny_pure h | exact wpAny_pure (wpAny_bind (wpAny_pure (wpAny_pure h)))
theorem kitX_err (C : ExcC K D) : KitX K (.ref x) (.ref D) (fun h => InstAt h x ox D od) where
  ty := fun _ _ _ I => I.type
  it := fun _ _ X _ => by
    obtain ⟨cd, hc, _⟩ := any_some C.hd
    unfold clsIn at hc
    split at hc
    · rename_i c' d' cd' sl' ho
      intro A' Q' E' s' k q
      unfold isType loadHead
      exact wpAny_bind (wpAny_loadPart (k _ _ (X _ _ ho)) (wpAny_pure q))
    · cases hc
  ne := fun h tp dd its n sl X htp => by
    obtain ⟨cd, hc, _⟩ := any_some C.hd
    refine Bool.eq_false_iff.mpr fun q => ?_
    obtain rfl : D = tp := Value.ref.inj (beq_iff_eq.mp q)
    unfold clsIn at hc
    split at hc
    · rename_i c' d' cd' sl' ho
      cases (X _ _ ho).symm.trans htp
    · cases hc
  ca := fun X I k => class_asked C X I k
end
/-- at a stands an error of the class at C with these fields (made by an own __init__) -/
def ErrAt (H : Hp) (a C : Addr) (fs : List (Str × V)) : Prop := (fs = [] ∧ H a = some (exo a C none)) ∨ ∃ d, H a = some (exo a C (some d)) ∧ H d = some (exd d fs)
theorem ErrAt.ext {H H' : Hp} {a C : Addr} {fs : List (Str × V)} (e : Ext H H') : ErrAt H a C fs → ErrAt H' a C fs
  | .inl ⟨h, k⟩ => .inl ⟨h, e _ _ k⟩
  | .inr ⟨d, h, k⟩ => .inr ⟨d, e _ _ h, e _ _ k⟩
/-- an error of a class without an own __init__, too -/
def ErrOf (H : Hp) (a C : Addr) : Prop := (∃ fs, ErrAt H a C fs) ∨ H a = some (ExO (.ref C) a)
section
variable {X : Cx} {pins : List (Addr × Obj)} {σ : L2.St} {H : Hp} {s : Shared} {a C : Addr} {fs : List (Str × V)}
theorem exo_inst (I : Inv X pins σ H s) (h : H a = some (exo a C none)) : ∃ ox, PySem.W.InstAt s.heap a ox C none := by
  obtain ⟨t1, e⟩ := exo_at I.hok h
  exact ⟨_, e, rfl, rfl, trivial⟩
theorem exd_inst {d : Addr} (I : Inv X pins σ H s) (h : H a = some (exo a C (some d))) (hd : H d = some (exd d fs)) : ∃ ox od, PySem.W.InstAt s.heap a ox C (some od) ∧ s.heap.get? d = some od := by
  obtain ⟨t1, e⟩ := exo_at I.hok h
  obtain ⟨mA, ⟨o, es, ep, ho, _⟩, _⟩ := exd_at I.hok hd
  exact ⟨_, o, ⟨e, rfl, rfl, ho⟩, ho⟩
theorem err_inst (I : Inv X pins σ H s) (h : ErrOf H a C) : ∃ ox od, PySem.W.InstAt s.heap a ox C od := by
  rcases h with ⟨fs, ⟨_, h⟩ | ⟨d, h, hd⟩⟩ | h
  · obtain ⟨ox, i⟩ := exo_inst I h
    exact ⟨ox, none, i⟩
  · obtain ⟨ox, od, i, _⟩ := exd_inst I h hd
    exact ⟨ox, some od, i⟩
  · obtain ⟨⟨oe, vs, e, z, d, _⟩, _⟩ := (show ObjOk X.prog X.w H s.heap a (ExO (.ref C) a) from I.hok a _ h)
    obtain ⟨oc, odd, oda, osl⟩ := oe
    obtain ⟨z1, z2⟩ := z
    dsimp only at z1 z2 d
    subst z1 z2 d
    exact ⟨_, none, e, rfl, rfl, trivial⟩
end
/-- isinstance(e, c), e an error of one's own -/
def rIsErr (K : PySem.W.Frag) : List V → Hp → VK → Prop := fun xs H Q => ∃ (a C : Addr) (c : V) (u : Value) (b : Bool), xs = [.ref a, c] ∧ ErrOf H a C ∧ ExcC K C ∧ ClsV c u ∧ PySem.W.kitOne K (.ref C) u = some b ∧ Q (.bl b) H
theorem call_isErr {X : Cx} : CallR X (.builtin "isinstance") (rIsErr X.K) := by
  intro pins s σ H xs us Q I r h
  obtain ⟨a, C, c, u, b, rfl, he, cc, k, e, q⟩ := h
  obtain ⟨u1, u2, rfl, r1, r2⟩ := vals2 r
  have e2 := k.eq r2
  subst e2
  cases (show u1 = Value.ref a from r1)
  obtain ⟨ox, od, J⟩ := err_inst I he
  exact PySem.W.kia_one (kitX_err cc) I.kIn J e (fun z => nomatch z) fun tk => ⟨.bl b, H, I.kept (t' := tk) fun _ _ z => z, rfl, q⟩
/-- e.f -/
def tErrF (K : PySem.W.Frag) (n : Str) (te : TE) : TE := fun σ H Q => te σ H fun x H1 => ∃ (a C : Addr) (fs : List (Str × V)) (v : V), x = .ref a ∧ ErrAt H1 a C fs ∧ ExcC K C ∧ PySem.W.findIn K (.ref C) n = some none ∧ fs.lookup n = some v ∧ Q v H1
theorem pe_errF {X : Cx} {e : Expr} {te : TE} {pos : Pos} {n : Str} (he : PE X e te) (hb : attributeBase e n X.env (eval e X.env) = eval e X.env := by rfl) : PE X (.Attribute e n pos) (tErrF X.K n te) := by
  constructor
  intro pins s σ H Q I h
  refine attr_of hb (thn (he.run pins s σ H _ I h) ?_)
  rintro u s1 ⟨x, H1, I1, rx, a, C, fs, v, rfl, ha, cc, hno, hl, q⟩
  obtain rfl : u = Value.ref a := rx
  rcases ha with ⟨rfl, _⟩ | ⟨d, h1, h2⟩
  · cases hl
  · obtain ⟨mA, hns, hr⟩ := exd_at I1.hok h2
    obtain ⟨od, ho, hlk⟩ := lookIn_ns hns
    obtain ⟨u, hu, ru⟩ := RelO.some_of (v := v) (o := mA n) (by rw [← hl]; exact hr n)
    obtain ⟨ox, od', J, ho'⟩ := exd_inst I1 h1 h2
    rw [ho] at ho'
    cases ho'
    exact HandSPX.exc_get I1.kIn J cc.hg cc.hk cc.hs (PySem.W.findObj_own cc.hd hno rfl (by rw [hlk, hu])) (handed_of ru) ⟨v, H1, I1.tok _, ru, q⟩
end AL
set_option maxHeartbeats 4000000
/-! AL7: errors made: C(e, ..), own __init__ that keeps its arguments; without one. -/
namespace AL
open PySem PySem.Spec PyProof.Rows L2
/-- what an own __init__ that keeps its arguments promises -/
def spErrI (C : Addr) (fs : List Str) : Sp := fun vs H Q _ => ∃ (a : Addr) (ys : List V), vs = .ref a :: ys ∧ ys.length = fs.length ∧ H a = some (exo a C none) ∧
  ∀ H2, (∀ b o, b ≠ a → H b = some o → H2 b = some o) → ErrAt H2 a C (fs.zip ys).reverse → Q .non H2
structure ErrM (pr : Program) (wd : World) (K : PySem.W.Frag) (mg : Str → Option Value) (bs : Heap) (x : Str) (C fI : Addr) (fd : FuncData) (fs : List Str) : Prop where
  oc : OexC K C
  xc : ExcC K C
  iC : PySem.W.findIn K (.ref C) "__init__" = some (some (.ref fI))
  tI : PySem.W.typeIn K (.ref fI) = some (.type "function")
  mC : mg x = some (.ref C)
  ok : FnOk pr wd K mg bs CX0 1 fI fd ("self" :: fs) (spErrI C fs)
  bi : Binds K fd ("self" :: fs) []
def tErr (C : Addr) (fs : List Str) (ta : TA) : TE := fun σ H Q => ta σ H fun vs H1 => vs.length = fs.length ∧ vs.length ≤ 1000 ∧ ∀ a H2, H1 a = none → Ext H1 H2 → ErrAt H2 a C (fs.zip vs).reverse → Q (.ref a) H2
section
variable {X : Cx} {x : Str} {C fI : Addr} {fd : FuncData} {fs : List Str} {e : Expr} {es : List Expr} {ta : TA} {p pos : Pos}
theorem make_err (M : ErrM X.prog X.w X.K X.mg X.base x C fI fd fs) (hr : Room 2 X.A) {pins : List (Addr × Obj)} {σ : L2.St} {H1 : Hp} {s1 : Shared} {us : List Value} {vs : List V} {Q : VK} (I1 : Inv X pins σ H1 s1) (r1 : Vals vs us) (hn : vs.length = fs.length) (hz : vs.length ≤ 1000)
    (q1 : ∀ a H2, H1 a = none → Ext H1 H2 → ErrAt H2 a C (fs.zip vs).reverse → Q (.ref a) H2) : wpAny (model X.prog X.w) X.A (call (.ref C) us) (EP X pins σ Q) X.xe s1 := by
  obtain ⟨nm, q, N, bs, bm, sn, sub, ab, col, dd, k0, k1, k2, k3, k5, hC, hbm⟩ := M.oc.cls
  obtain ⟨hp, gs, dr, tk, os⟩ := s1
  have sz1 : hp.objs.size ≤ hp.objs.size + 1 := Nat.le_succ _
  have new1 : H1 (hp.objs.size + 1) = none := I1.hok.fresh sz1
  have kk : ∀ b o, hp.get? b = some o → ((hp.push (PySem.W.kdv_tup us)).push (PySem.HandSPX.excO C hp.objs.size)).get? b = some o := fun b o z => Heap.get?_push_of_some _ (Heap.get?_push_of_some _ z)
  have there : ((hp.push (PySem.W.kdv_tup us)).push (PySem.HandSPX.excO C hp.objs.size)).get? (hp.objs.size + 1) = some (PySem.HandSPX.excO C hp.objs.size) := by heap_get
  have I2 : Inv X pins σ (upd H1 (hp.objs.size + 1) (exo (hp.objs.size + 1) C none)) ⟨(hp.push (PySem.W.kdv_tup us)).push (PySem.HandSPX.excO C hp.objs.size), gs, dr, tk, os⟩ :=
    I1.laid (t' := tk) kk sz1 (exo_ok there)
  have hq : spErrI C fs (.ref (hp.objs.size + 1) :: vs) (upd H1 (hp.objs.size + 1) (exo (hp.objs.size + 1) C none)) (fun v H2 => v = .non ∧ Q (.ref (hp.objs.size + 1)) H2) E0 := by
    refine ⟨_, vs, rfl, hn, upd_same, fun H2 keep at2 => ⟨rfl, q1 _ H2 new1 (fun b o z => ?_) at2⟩⟩
    have ne := ne_of_none z new1
    exact keep b o ne (by rw [upd_ne ne]; exact z)
  have r2 : Vals (V.ref (hp.objs.size + 1) :: vs) (Value.ref (hp.objs.size + 1) :: us) := .cons rfl r1
  have hl : (Value.ref (hp.objs.size + 1) :: us).length = ("self" :: fs : List Str).length := by
    rw [← r2.length]
    exact M.ok.len _ _ _ _ hq
  have hus : us.length ≤ sizeLine := by
    rw [← Paired.length r1, sizeLine_eq]
    omega
  have hb := M.bi _ (Value.ref (hp.objs.size + 1) :: us) I2.kIn (by rw [List.append_nil]; exact hl)
  rw [List.append_nil] at hb
  refine wpAny_call (PySem.HandSPX.call_own F.excBase_ValueError (fun Y => PySem.HandSPX.refsVE_contains Y bm hbm) (I1.kIn _ _ hC) (PySem.W.looks_findIn I1.kIn M.iC) (fun self => PySem.W.bind_fn I1.kIn self M.tI) hus
    (codeAny_mono (M.ok.run _ X.stack _ _ ⟨Value.ref (hp.objs.size + 1) :: us, []⟩ (Value.ref (hp.objs.size + 1) :: us) _ _ E0 (hr.make C us []) (I2.env0.make C us []) hb r2 hq) ?_))
  intro r s' hq'
  cases r with
  | error er => exact hq'.elim
  | ok fl =>
    cases fl with
    | ret u =>
      obtain ⟨v, H2, os2, bare2, un2, hok2, rv, rfl, q2⟩ := hq'
      obtain ⟨h2, g2, d2, t2, os'⟩ := s'
      obtain rfl : os' = os := os2
      exact ⟨rv, .ref _, H2, I2.call (h' := h2) (g' := g2) (d' := d2) (t' := t2) (ch := []) un2 hok2 bare2 (fun b z => absurd z (by simp)), rfl, q2⟩
    | next => exact hq'.elim
    | brk => exact hq'.elim
    | cont => exact hq'.elim
theorem pe_err (M : ErrM X.prog X.w X.K X.mg X.base x C fI fd fs) (hr : Room 2 X.A) (hg : Gl X x) (ha : PA X (e :: es) ta) (hdb : (x == ("__debug__" : Str)) = false := by decide)
    (he : starEach (e :: es) X.env = (false, eval e X.env) :: starEach es X.env := by rfl) (hpl : (backTo pos (starEach es X.env)).any (·.1) = false := by rfl) : PE X (.Call (.Name x p) (e :: es) [] pos) (tErr C fs ta) := by
  constructor
  intro pins s σ H Q I h
  refine wpAny_Call_Name_kw (ld_glob I hg M.mC ?_ hdb)
  refine PySem.W.callWith_K (h₀ := X.base) I.ok.mod.kin M.oc.kC (thn (ha.run pos pins s σ H _ I h) ?_) he hpl
  rintro us s1 ⟨vs, H1, I1, r1, hn, hz, q1⟩
  exact ⟨I1.kIn, make_err M hr I1 r1 hn hz q1⟩
theorem pe_err0 (M : ErrM X.prog X.w X.K X.mg X.base x C fI fd []) (hr : Room 2 X.A) (hg : Gl X x) (hdb : (x == ("__debug__" : Str)) = false := by decide) : PE X (.Call (.Name x p) [] [] pos) (tErr C [] tNil) := by
  constructor
  intro pins s σ H Q I h
  refine wpAny_Call_Name_kw (ld_glob I hg M.mC ?_ hdb)
  obtain ⟨hn, hz, q1⟩ := h
  exact PySem.W.callWith_K0 I.kIn M.oc.kC (make_err M hr I (us := []) .nil hn hz q1)
/-- X(..), a class without an own __init__, of any arguments -/
def tExc (C : Addr) (ta : TA) : TE := fun σ H Q => ta σ H fun vs H1 => vs.length ≤ 1000 ∧ ∀ a, H1 a = none → Q (.ref a) (upd H1 a (ExO (.ref C) a))
theorem make_exc (q : PySem.W.excIn X.K C [.type "ValueError", .type "Exception", .type "BaseException", .type "object"] "ValueError.__new__" = true) {pins : List (Addr × Obj)} {σ : L2.St} {H1 : Hp} {s1 : Shared} {us : List Value} {vs : List V} {Q : VK} (I1 : Inv X pins σ H1 s1) (r1 : Vals vs us) (hz : vs.length ≤ 1000)
    (q1 : ∀ a, H1 a = none → Q (.ref a) (upd H1 a (ExO (.ref C) a))) : wpAny (model X.prog X.w) X.A (call (.ref C) us) (EP X pins σ Q) X.xe s1 := by
  obtain ⟨bm, N, nm, qn, bs, hdct, sn, sub, ab, col, dd, k0, k1, k2, k3, k5, mN, hC, hN, hni, T⟩ := exc_obj I1.kIn q
  obtain ⟨hp, gs, dr, tk, os⟩ := s1
  refine wpAny_call_exc_subT F.excBase_ValueError T hC hN hni (fun h' a hm => ?_) (by rw [← Paired.length r1, sizeLine_eq]; omega)
  have hn : H1 a = none := I1.hok.gone hm.new
  obtain ⟨t, ht, _, _⟩ := hm.there
  exact ⟨.ref a, upd H1 a (ExO (.ref C) a), I1.laidN hm.keeps hm.new hn (exO_ok ht ⟨rfl, rfl⟩ rfl rfl rfl (show 4 < 6 by decide)), rfl, q1 a hn⟩
theorem pe_exc (q : PySem.W.excIn X.K C [.type "ValueError", .type "Exception", .type "BaseException", .type "object"] "ValueError.__new__" = true) (gC : X.mg x = some (.ref C)) (kC : PySem.W.keepIn X.K (.ref C) = true) (hg : Gl X x) (ha : PA X (e :: es) ta) (hdb : (x == ("__debug__" : Str)) = false := by decide)
    (he : starEach (e :: es) X.env = (false, eval e X.env) :: starEach es X.env := by rfl) (hpl : (backTo pos (starEach es X.env)).any (·.1) = false := by rfl) : PE X (.Call (.Name x p) (e :: es) [] pos) (tExc C ta) := by
  constructor
  intro pins s σ H Q I h
  refine wpAny_Call_Name_kw (ld_glob I hg gC ?_ hdb)
  refine PySem.W.callWith_K (h₀ := X.base) I.ok.mod.kin kC (thn (ha.run pos pins s σ H _ I h) ?_) he hpl
  rintro us s1 ⟨vs, H1, I1, r1, hz, q1⟩
  exact ⟨I1.kIn, make_exc q I1 r1 hz q1⟩
theorem pe_exc0 (q : PySem.W.excIn X.K C [.type "ValueError", .type "Exception", .type "BaseException", .type "object"] "ValueError.__new__" = true) (gC : X.mg x = some (.ref C)) (kC : PySem.W.keepIn X.K (.ref C) = true) (hg : Gl X x) (hdb : (x == ("__debug__" : Str)) = false := by decide) :
    PE X (.Call (.Name x p) [] [] pos) (tExc C tNil) := by
  constructor
  intro pins s σ H Q I h
  refine wpAny_Call_Name_kw (ld_glob I hg gC ?_ hdb)
  obtain ⟨hz, q1⟩ := h
  exact PySem.W.callWith_K0 I.kIn kC (make_exc q I (us := []) .nil hz q1)
end
end AL
namespace AL
open PySem L2
def top (i : Nat) : Stmt := PySem.Challenge.pw_plancalls_k10_errors_kept.main.body.getD i (.Pass ⟨0, 0, 0, 0⟩)
def forBody : Stmt → List Stmt
  | .For _ _ b _ _ => b
  | _ => []
def ifBody : Stmt → List Stmt
  | .If _ b _ _ => b
  | _ => []
abbrev sBag : Stmt := top 31
abbrev sTake : Stmt := top 32
abbrev sAlike : Stmt := top 33
section
variable {P : Program} {w : World} {K : PySem.W.Frag} {mg : Str → Option Value} {base : Heap}
theorem scTake : FnScope ["_law_bag_here", "_law_most", "_law_cell", "_law_mixed", "_law_drawn", "_law_begin", "_law_second"] ["_law_bag_here", "_law_most"] (defScope sTake) :=
  ⟨rfl, rfl, rfl, by decide +kernel, rfl, by decide +kernel, by decide +kernel⟩
/-- the built-ins -/
structure Blt (mg : Str → Option Value) : Prop where
  len : mg "len" = none
  int : mg "int" = none
  abs : mg "abs" = none
  repr : mg "repr" = none
  isinstance : mg "isinstance" = none
  bool : mg "bool" = none
  str : mg "str" = none
  all : mg "all" = none
  range : mg "range" = none
  enumerate : mg "enumerate" = none
  tuple : mg "tuple" = none
  list : mg "list" = none
  dict : mg "dict" = none
  ValueError : mg "ValueError" = none
theorem ok_take {f : Addr} {fd : FuncData} (F : Fun K "_law_take" "_law_take" sTake f fd) (T : Blt mg) : FnOk P w K mg base CX0 1 f fd ["_law_bag_here", "_law_most"] spTake := by
  refine F.ok scTake (fun vs H Q E h => ?_) (fun cdv A outer s H vs Q E hr h => ?_)
  · obtain ⟨b, l, m, rfl, _⟩ := h
    rfl
  · obtain ⟨b, l, m, rfl, ⟨c, sd, i, ns, B⟩, m0, m1, k⟩ := h
    have nd := scTake.nd
    obtain ⟨tR, hR, rd⟩ : ∃ tR, PSs (cxOf CX0 P w K mg base ["_law_bag_here", "_law_most", "_law_cell", "_law_mixed", "_law_drawn", "_law_begin", "_law_second"] "_law_take" (defScope sTake) f cdv A outer s H E).nox ((defBody sTake).drop 1) tR ∧
        ∀ (H1 : Hp) (x y : Option V) (c sd : Int) (i : Nat) (ns : List Int), Bag H1 b l c sd i ns → (∀ a, a ≠ b → H1 a = H a) → tR { nx := fun _ H' => Q .non H', rt := Q } [some (.ref b), some (.int m), x, y, none, none, none] H1 := by
      refine ⟨_, pss_cons (ps_if (pt_cmpR op_gt (pe_ix ix_list (pv 0) pe_int (fun _ _ => rfl)) pe_int (nomark _))
          (pss_cons (ps_set (i := 4) nd rfl (.inl rfl) (pe_op op_mod (pe_callTy call_int1 (by rfl) T.int (by decide +kernel) (pa_cons (pe_ix ix_list (pv 0) pe_int (fun _ _ => rfl)) pa_nil)) (pv 1)))
            (pss_cons (ps_asg (pe_op op_fdiv (pe_callTy call_int1 (by rfl) T.int (by decide +kernel) (pa_cons (pe_ix ix_list (pv 0) pe_int (fun _ _ => rfl)) pa_nil)) (pv 1)) (pg_sub (pv 0) pe_int set_list))
            (pss_one (ps_ret (pv 4))))) pss_nil)
        (pss_cons (ps_set (i := 5) nd rfl (.inl rfl) (pe_op op_mod (pe_callTy call_int1 (by rfl) T.int (by decide +kernel) (pa_cons (pe_op op_mul (pe_op op_add (pe_ix ix_list (pv 0) pe_int (fun _ _ => rfl)) pe_int) pe_int) pa_nil)) pe_int))
        (pss_cons (ps_set (i := 6) nd rfl (.inl rfl) (pe_op op_mod (pe_callTy call_int1 (by rfl) T.int (by decide +kernel) (pa_cons (pe_op op_mul (pv 5) (pv 5)) pa_nil)) pe_int))
        (pss_cons (ps_set (i := 6) nd rfl (.inl rfl) (pe_op op_mod (pe_callTy call_int1 (by rfl) T.int (by decide +kernel) (pa_cons (pe_op op_mul (pv 6) pe_int) pa_nil)) pe_int))
        (pss_cons (ps_if (pt_cmpR op_gt (pv 1) pe_int (nomark _))
          (pss_one (ps_ret (pe_op op_mod (pe_callTy call_int1 (by rfl) T.int (by decide +kernel) (pa_cons (pe_op op_add (pe_op op_mul (pv 6) pe_int) (pv 5)) pa_nil)) (pv 1)))) pss_nil)
        (pss_one (ps_ret (pe_op op_mod (pe_callTy call_int1 (by rfl) T.int (by decide +kernel) (pa_cons (pe_op op_fdiv (pv 6) pe_int) pa_nil)) (pv 1)))))))), ?_⟩
      intro H1 x y c sd i ns B1 same
      have hb := B1.hb
      have sb : SqL K H1 b [.int c, .int sd, .int (i : Int), .ref l] := .inl (.inl hb)
      refine ⟨_, rfl, b, _, 0, _, rfl, rfl, sb, rfl, _, _, rfl, rfl, _, rfl, ?_⟩
      refine ite2 (fun hc => ?_) (fun hc => ?_)
      · have c1 : 0 < c := by simpa using hc
        refine ⟨_, rfl, b, _, 0, _, rfl, rfl, sb, rfl, .inl ⟨_, rfl, _, rfl, _, _, rfl, rfl, m0, ?_⟩⟩
        refine ⟨_, rfl, b, _, 0, _, rfl, rfl, sb, rfl, .inl ⟨_, rfl, _, rfl, _, _, rfl, rfl, ⟨m0, m1⟩, ?_⟩⟩
        refine ⟨_, rfl, b, _, 0, 0, rfl, rfl, hb, rfl, _, rfl, ?_⟩
        exact k _ _ (Int.emod_nonneg c (by omega)) (Int.emod_lt_of_pos c m0) ⟨_, sd, i, ns, B1.put (Int.ediv_nonneg B1.c0 (by omega)) B1.s0 B1.s1⟩ fun a ha => by rw [upd_ne ha]; exact same a ha
      · refine ⟨_, rfl, b, _, 1, _, rfl, rfl, sb, rfl, _, _, rfl, rfl, _, _, rfl, rfl, .inr ⟨by decide, by decide⟩, .inl ⟨_, rfl, _, _, rfl, rfl, (by show (0 : Int) < 1000000007; decide), ?_⟩⟩
        have e1 := Int.emod_nonneg ((sd + 1) * 39373) (show (1000000007 : Int) ≠ 0 by decide)
        have e2 := Int.emod_lt_of_pos ((sd + 1) * 39373) (show (0 : Int) < 1000000007 by decide)
        refine ⟨_, rfl, _, rfl, _, _, rfl, rfl, .inl ⟨by omega, by omega⟩, .inl ⟨_, rfl, _, _, rfl, rfl, (by show (0 : Int) < 998244353; decide), ?_⟩⟩
        refine ⟨_, rfl, _, _, rfl, rfl, .inr ⟨by decide, by decide⟩, .inl ⟨_, rfl, _, _, rfl, rfl, (by show (0 : Int) < 998244353; decide), ?_⟩⟩
        refine ⟨_, rfl, _, _, rfl, rfl, _, rfl, ?_⟩
        have fin : ∀ z : Int, Q (.int (z % m)) H1 := fun z => k _ _ (Int.emod_nonneg z (by omega)) (Int.emod_lt_of_pos z m0) ⟨c, sd, i, ns, B1⟩ same
        refine ite2 (fun _ => ?_) (fun _ => ?_)
        · refine ⟨_, rfl, _, _, rfl, rfl, .inr ⟨by decide, by decide⟩, _, rfl, _, _, rfl, rfl, .inl ⟨_, rfl, _, rfl, _, _, rfl, rfl, m0, ?_⟩⟩
          exact fin _
        · refine ⟨_, rfl, _, _, rfl, rfl, ⟨by decide, by decide⟩, .inl ⟨_, rfl, _, rfl, _, _, rfl, rfl, m0, ?_⟩⟩
          exact fin _
    obtain ⟨tM, hM, rdM⟩ : ∃ tM, PSs (cxOf CX0 P w K mg base ["_law_bag_here", "_law_most", "_law_cell", "_law_mixed", "_law_drawn", "_law_begin", "_law_second"] "_law_take" (defScope sTake) f cdv A outer s H E).nox ((ifBody ((defBody sTake).getD 0 (.Pass ⟨0, 0, 0, 0⟩))).drop 2) tM ∧
        ∀ (D : Ends) (z : Int), 0 ≤ z → (∀ (H1 : Hp) (y : Option V) (c sd : Int) (i : Nat), Bag H1 b l c sd i ns → (∀ a, a ≠ b → H1 a = H a) → D.nx [some (.ref b), some (.int m), some (.int z), y, none, none, none] H1) →
          tM D [some (.ref b), some (.int m), some (.int z), none, none, none, none] H := by
      refine ⟨_, pss_cons (ps_augS (pv 0) pe_int get_list pe_int ip_add set_list)
        (pss_cons (ps_if (pt_cmpR op_ge (pv 2) (pe_op op_pow pe_int pe_int) (nomark _)) (pss_one (ps_asg (pv 2) (pg_sub (pv 0) pe_int set_list))) pss_nil)
        (pss_cons (ps_set (i := 3) nd rfl (.inl rfl) (pe_op op_add (pe_op op_add (pe_op op_mul (pe_ix ix_list (pv 0) pe_int (fun _ _ => rfl)) pe_int) (pe_op op_mod (pe_callTy call_int1 (by rfl) T.int (by decide +kernel) (pa_cons (pv 2) pa_nil)) pe_int))
            (pe_op op_mul pe_int (pe_ix ix_list (pv 0) pe_int (fun _ _ => rfl)))))
        (pss_one (ps_asg (pe_op op_mod (pe_callTy call_int1 (by rfl) T.int (by decide +kernel) (pa_cons (pv 3) pa_nil)) pe_int) (pg_sub (pv 0) pe_int set_list))))), ?_⟩
      intro D z z0 kk
      refine ⟨_, rfl, b, _, 2, _, rfl, rfl, .inl (.inl B.hb), rfl, _, _, rfl, rfl, b, _, 2, 2, rfl, rfl, B.hb, rfl, ?_⟩
      have B1 : Bag (upd H b (.lst [.int c, .int sd, .int ((i + 1 : Nat) : Int), .ref l])) b l c sd (i + 1) ns := B.put B.c0 B.s0 B.s1
      refine ⟨_, rfl, _, _, rfl, rfl, ⟨by decide, by decide, by decide⟩, _, _, rfl, rfl, _, rfl, ?_⟩
      have big : (0 : Int) < 2147483647 := by decide
      refine ite2 (fun _ => ?_) (fun _ => ?_)
      · refine ⟨_, rfl, _, rfl, b, _, 0, 0, rfl, rfl, B1.hb, rfl, ?_⟩
        have B2 := B1.put (i' := i + 1) z0 B1.s0 B1.s1
        refine ⟨_, rfl, b, _, 1, _, rfl, rfl, .inl (.inl B2.hb), rfl, _, _, rfl, rfl, .inr ⟨by decide, by decide⟩, _, rfl, .inl ⟨_, rfl, _, _, rfl, rfl, big, ?_⟩⟩
        refine ⟨_, _, rfl, rfl, _, rfl, b, _, 2, _, rfl, rfl, .inl (.inl B2.hb), rfl, _, _, rfl, rfl, .inl ⟨by decide, by decide⟩, _, _, rfl, rfl, _, rfl, .inl ⟨_, rfl, _, _, rfl, rfl, big, ?_⟩⟩
        refine ⟨_, rfl, b, _, 1, 1, rfl, rfl, B2.hb, rfl, ?_⟩
        have B3 := B2.put (i' := i + 1) B2.c0 (Int.emod_nonneg (sd * 48271 + z % 2147483647 + 7919 * ((i + 1 : Nat) : Int)) (show (2147483647 : Int) ≠ 0 by decide)) (Int.emod_lt_of_pos _ big)
        exact kk _ _ _ _ _ B3 fun a ha => by rw [upd_ne ha, upd_ne ha, upd_ne ha]
      · refine ⟨_, rfl, b, _, 1, _, rfl, rfl, .inl (.inl B1.hb), rfl, _, _, rfl, rfl, .inr ⟨by decide, by decide⟩, _, rfl, .inl ⟨_, rfl, _, _, rfl, rfl, big, ?_⟩⟩
        refine ⟨_, _, rfl, rfl, _, rfl, b, _, 2, _, rfl, rfl, .inl (.inl B1.hb), rfl, _, _, rfl, rfl, .inl ⟨by decide, by decide⟩, _, _, rfl, rfl, _, rfl, .inl ⟨_, rfl, _, _, rfl, rfl, big, ?_⟩⟩
        refine ⟨_, rfl, b, _, 1, 1, rfl, rfl, B1.hb, rfl, ?_⟩
        have B3 := B1.put (i' := i + 1) B1.c0 (Int.emod_nonneg (sd * 48271 + z % 2147483647 + 7919 * ((i + 1 : Nat) : Int)) (show (2147483647 : Int) ≠ 0 by decide)) (Int.emod_lt_of_pos _ big)
        exact kk _ _ _ _ _ B3 fun a ha => by rw [upd_ne ha, upd_ne ha]
    refine ⟨_, pss_cons (ps_if (pt_cmpR op_eq (pe_ix ix_list (pv 0) pe_int (fun _ _ => rfl)) pe_int (nomark _))
      (pss_cons (ps_set (i := 2) nd rfl (.inl rfl) pe_int)
      (pss_cons (ps_if (pt_cmpR op_lt (pe_ix ix_list (pv 0) pe_int (fun _ _ => rfl)) (pe_callB call_len (by rfl) T.len PySem.boot_len (pa_cons (pe_ix ix_list (pv 0) pe_int (fun _ _ => rfl)) pa_nil)) (nomark _))
          (pss_one (ps_set (i := 2) nd rfl (.inl rfl) (pe_ix ix_list (pe_ix ix_list (pv 0) pe_int (fun _ _ => rfl)) (pe_ix ix_list (pv 0) pe_int (fun _ _ => rfl)) (fun _ _ => rfl)))) pss_nil) hM)) pss_nil) hR, ?_⟩
    have sb : SqL K H b [.int c, .int sd, .int (i : Int), .ref l] := .inl (.inl B.hb)
    have sl : SqL K H l (ns.map V.int) := .inl (.inl B.hl)
    refine ⟨_, rfl, b, _, 0, _, rfl, rfl, sb, rfl, rfl, _, rfl, ?_⟩
    refine ite2 (fun _ => ?_) (fun _ => ?_)
    · refine ⟨_, rfl, b, _, 2, _, rfl, rfl, sb, rfl, _, rfl, b, _, 3, _, rfl, rfl, sb, rfl, _, _, rfl, .inl ⟨_, sl, rfl⟩, _, _, rfl, rfl, _, rfl, ?_⟩
      have fin : ∀ (z : Int) (H1 : Hp) (y : Option V) (c sd : Int) (i : Nat), Bag H1 b l c sd i ns → (∀ a, a ≠ b → H1 a = H a) → tR { nx := fun _ H' => Q .non H', rt := Q } [some (.ref b), some (.int m), some (.int z), y, none, none, none] H1 :=
        fun z H1 y c sd i B1 same => rd H1 _ y c sd i ns B1 same
      refine ite2 (fun hlt => ?_) (fun _ => ?_)
      · have hlt' : i < ns.length := by simpa using hlt
        have gz : (ns.map V.int)[i]? = some (.int ns[i]) := by simp [hlt']
        refine ⟨_, rfl, b, _, 3, _, rfl, rfl, sb, rfl, _, rfl, b, _, 2, _, rfl, rfl, sb, rfl, l, _, _, _, rfl, rfl, sl, at_of rfl gz, ?_⟩
        exact rdM _ _ (B.nz _ (List.getElem_mem _)) (fin _)
      · exact rdM _ 0 (Int.le_refl _) (fin _)
    exact rd H none none c sd i ns B fun _ _ => rfl
theorem scBag : FnScope ["_law_script", "_law_cell"] ["_law_script"] (defScope sBag) := ⟨rfl, rfl, rfl, by decide +kernel, rfl, by decide +kernel, by decide +kernel⟩
theorem cut_ints {ns : List Int} {lo hi : Option Int} : ∃ ms : List Int, cutV (ns.map V.int) lo hi = ms.map V.int ∧ ms.length ≤ ns.length := by
  refine ⟨(ns.drop (HT.sIx (ns.map V.int).length 0 lo)).take (HT.sIx (ns.map V.int).length (ns.map V.int).length hi - HT.sIx (ns.map V.int).length 0 lo), ?_, ?_⟩
  · unfold cutV
    rw [List.map_take, List.map_drop]
  · rw [List.length_take, List.length_drop]
    omega
theorem ok_bag {f : Addr} {fd : FuncData} (F : Fun K "_law_bag" "_law_bag" sBag f fd) (T : Blt mg) : FnOk P w K mg base CX0 1 f fd ["_law_script"] (spBag K) := by
  refine F.ok scBag (fun vs H Q E h => ?_) (fun cdv A outer s H vs Q E hr h => ?_)
  · obtain ⟨b, m, rfl, _⟩ := h
    rfl
  · obtain ⟨a, ns, rfl, hS, hl, k⟩ := h
    have nd := scBag.nd
    refine ⟨_, pss_one (ps_ret (pe_lst (pa_cons pe_int (pa_cons pe_int (pa_cons pe_int (pa_cons
      (pe_lc (own := [("_law_cell", 1)]) (g := gName 1) (tt := tYes) rfl nd (pi_list (pe_slice sl_list (pv 0) po_none (po_some pe_int))) (blkOk_by (N := ["_law_script", "_law_cell"]) (sc := defScope sBag) (by decide +kernel))
        (fun _ _ _ _ _ => pg_name (i := 1) nd rfl (Or.inl rfl)) (fun _ _ _ _ _ => pts_nil) (fun _ _ _ _ _ => pe_callB call_abs (by rfl) T.abs (by decide +kernel) (pa_cons (pv 1) pa_nil))) pa_nil)))))), ?_⟩
    obtain ⟨ms, e1, e2⟩ := cut_ints (ns := ns) (lo := none) (hi := some 63)
    refine ⟨_, rfl, _, rfl, a, _, rfl, hS, fun p np => ?_⟩
    rw [e1]
    refine ⟨p, rfl, ⟨_, .inl (.inl upd_same)⟩, fun D nD => ?_⟩
    have npD : p ≠ D := ne_of_none upd_same nD
    refine lc_list (K := K) (a := p) (xs := ms.map V.int) (fun i H2 => ∃ qs : List Int, H2 = upd (upd H p (.lst (ms.map V.int))) D (.lst (qs.map V.int)) ∧ qs.length = i ∧ ∀ q ∈ qs, 0 ≤ q) ⟨[], rfl, rfl, by simp⟩ ?_ ?_ ?_
    · rintro i H2 _ ⟨qs, rfl, _, _⟩
      exact .inl (.inl (by rw [upd_ne npD]; exact upd_same))
    · rintro i x H2 hi ⟨qs, rfl, hq, h0⟩
      obtain ⟨z, rfl⟩ : ∃ z, x = V.int z := by
        rw [List.getElem?_map] at hi
        obtain ⟨z, _, e⟩ := Option.map_eq_some_iff.mp hi
        exact ⟨z, e.symm⟩
      have hil : i < (ms.map V.int).length := (List.getElem?_eq_some_iff.mp hi).1
      rw [List.length_map] at hil
      refine ⟨rfl, _, rfl, _, rfl, _, upd_same, ?_, qs ++ [if z < 0 then -z else z], ?_, ?_, ?_⟩
      · rw [List.length_map]
        exact small1000 (by omega)
      · rw [upd_upd, List.map_append]
        rfl
      · rw [List.length_append, hq]
        rfl
      · intro q hm
        rcases List.mem_append.mp hm with hm | hm
        · exact h0 q hm
        · obtain rfl := List.mem_singleton.mp hm
          split <;> omega
    · rintro H2 ⟨qs, rfl, hq, h0⟩
      refine ⟨by show 4 ≤ sizeLine; decide, fun b nb => ?_⟩
      have nDb : D ≠ b := ne_of_none upd_same nb
      have npb : p ≠ b := by
        intro e
        rw [← e, upd_ne npD, upd_same] at nb
        cases nb
      have nb' : H b = none := by
        rw [upd_ne nDb.symm, upd_ne npb.symm] at nb
        exact nb
      refine k b D _ nb' (by rw [upd_ne npD.symm] at nD; exact nD) ⟨0, 1234567891, 0, qs, ⟨upd_same, by rw [upd_ne nDb, upd_same], h0, by decide, by decide, by decide⟩⟩ fun c o e => ?_
      rw [upd_ne (ne_of_none e nb'), upd_ne, upd_ne (ne_of_none e np)]
      · exact e
      · rintro rfl
        rw [upd_ne (ne_of_none e np), e] at nD
        cases nD
theorem scAlike : FnScope ["_law_one", "_law_other"] ["_law_one", "_law_other"] (defScope sAlike) := ⟨rfl, rfl, rfl, by decide +kernel, rfl, by decide +kernel, by decide +kernel⟩
theorem ok_alike {f : Addr} {fd : FuncData} (F : Fun K "_law_alike" "_law_alike" sAlike f fd) (T : Blt mg) (sm : SM base) : FnG P w K mg base 1 f fd ["_law_one", "_law_other"] (spAlike K) := by
  refine okG F scAlike (fun vs H Q E h => ?_) (fun cdv A outer s H vs Q E hg hr h => ?_)
  · obtain ⟨x, y, d, rfl, _⟩ := h
    rfl
  · obtain ⟨x, y, d, rfl, hx, hy, he, ⟨h1, h2, h3⟩, k⟩ := h
    refine ⟨_, pss_one (ps_ret (pe_and (pe_cmpR (op_eqOk hr.units) (pv 0) (pv 1) (nomark _)) (pe_one (pe_cmpR op_eq (pe_callB (call_rep hg hr.units sm) (by rfl) T.repr (by decide +kernel) (pa_cons (pv 0) pa_nil))
      (pe_callB (call_rep hg hr.units sm) (by rfl) T.repr (by decide +kernel) (pa_cons (pv 1) pa_nil)) (nomark _))))), ?_⟩
    refine ⟨_, rfl, _, rfl, he, true, rfl, ?_⟩
    refine iteT ⟨_, rfl, x, d, rfl, hx, h1, h2, h3, _, rfl, y, d, rfl, hy, h1, h2, h3, rfl, ?_⟩
    rw [decide_eq_true rfl]
    exact k
end
end AL
namespace AL
open PySem PySem.Spec PyProof.Rows L2
section
variable {P : Program} {w : World} {K : PySem.W.Frag} {mg : Str → Option Value} {base : Heap}
abbrev i_Wrong : Stmt := inClass (top 2) 0
theorem ok_Wrong {f C : Addr} {fd : FuncData} (F : Fun K "__init__" "Wrong.__init__" i_Wrong f fd) (O : OexC K C) (n_place : PySem.W.findIn K (.ref C) "place" = some none) : FnOk P w K mg base CX0 1 f fd ["self", "place"] (spErrI C ["place"]) := by
  refine F.ok (N := ["self", "place"]) ⟨rfl, rfl, rfl, by decide +kernel, rfl, by decide +kernel, by decide +kernel⟩ (fun vs H Q E h => ?_) (fun cdv A outer s H vs Q E hr h => ?_)
  · obtain ⟨a, ys, rfl, hl, _⟩ := h
    show ys.length + 1 = _
    rw [hl]
    rfl
  · obtain ⟨a, ys, rfl, hl, ha, k⟩ := h
    obtain ⟨y0, rfl⟩ : ∃ y0, ys = [y0] := by
      match ys, hl with
      | [y0], _ => exact ⟨y0, rfl⟩
    refine ⟨_, (pss_one (ps_ost (pv 0) (pv 1))), ?_⟩
    refine ⟨_, rfl, _, rfl, a, C, rfl, O, n_place, .inl ⟨ha, fun d nd ne => ?_⟩⟩
    refine k _ (fun b o hb h => by rw [upd_ne hb, upd_ne (ne_of_none h nd)]; exact h) (.inr ⟨d, upd_same, ?_⟩)
    rw [upd_ne ne]
    exact upd_same
abbrev i_BadKey : Stmt := inClass (top 3) 0
theorem ok_BadKey {f C : Addr} {fd : FuncData} (F : Fun K "__init__" "BadKey.__init__" i_BadKey f fd) (O : OexC K C) (n_table : PySem.W.findIn K (.ref C) "table" = some none) : FnOk P w K mg base CX0 1 f fd ["self", "table"] (spErrI C ["table"]) := by
  refine F.ok (N := ["self", "table"]) ⟨rfl, rfl, rfl, by decide +kernel, rfl, by decide +kernel, by decide +kernel⟩ (fun vs H Q E h => ?_) (fun cdv A outer s H vs Q E hr h => ?_)
  · obtain ⟨a, ys, rfl, hl, _⟩ := h
    show ys.length + 1 = _
    rw [hl]
    rfl
  · obtain ⟨a, ys, rfl, hl, ha, k⟩ := h
    obtain ⟨y0, rfl⟩ : ∃ y0, ys = [y0] := by
      match ys, hl with
      | [y0], _ => exact ⟨y0, rfl⟩
    refine ⟨_, (pss_one (ps_ost (pv 0) (pv 1))), ?_⟩
    refine ⟨_, rfl, _, rfl, a, C, rfl, O, n_table, .inl ⟨ha, fun d nd ne => ?_⟩⟩
    refine k _ (fun b o hb h => by rw [upd_ne hb, upd_ne (ne_of_none h nd)]; exact h) (.inr ⟨d, upd_same, ?_⟩)
    rw [upd_ne ne]
    exact upd_same
abbrev i_BadReference : Stmt := inClass (top 4) 0
theorem ok_BadReference {f C : Addr} {fd : FuncData} (F : Fun K "__init__" "BadReference.__init__" i_BadReference f fd) (O : OexC K C) (n_at : PySem.W.findIn K (.ref C) "at" = some none) : FnOk P w K mg base CX0 1 f fd ["self", "at"] (spErrI C ["at"]) := by
  refine F.ok (N := ["self", "at"]) ⟨rfl, rfl, rfl, by decide +kernel, rfl, by decide +kernel, by decide +kernel⟩ (fun vs H Q E h => ?_) (fun cdv A outer s H vs Q E hr h => ?_)
  · obtain ⟨a, ys, rfl, hl, _⟩ := h
    show ys.length + 1 = _
    rw [hl]
    rfl
  · obtain ⟨a, ys, rfl, hl, ha, k⟩ := h
    obtain ⟨y0, rfl⟩ : ∃ y0, ys = [y0] := by
      match ys, hl with
      | [y0], _ => exact ⟨y0, rfl⟩
    refine ⟨_, (pss_one (ps_ost (pv 0) (pv 1))), ?_⟩
    refine ⟨_, rfl, _, rfl, a, C, rfl, O, n_at, .inl ⟨ha, fun d nd ne => ?_⟩⟩
    refine k _ (fun b o hb h => by rw [upd_ne hb, upd_ne (ne_of_none h nd)]; exact h) (.inr ⟨d, upd_same, ?_⟩)
    rw [upd_ne ne]
    exact upd_same
abbrev i_BadMade : Stmt := inClass (top 5) 0
theorem ok_BadMade {f C : Addr} {fd : FuncData} (F : Fun K "__init__" "BadMade.__init__" i_BadMade f fd) (O : OexC K C) (n_at : PySem.W.findIn K (.ref C) "at" = some none) : FnOk P w K mg base CX0 1 f fd ["self", "at"] (spErrI C ["at"]) := by
  refine F.ok (N := ["self", "at"]) ⟨rfl, rfl, rfl, by decide +kernel, rfl, by decide +kernel, by decide +kernel⟩ (fun vs H Q E h => ?_) (fun cdv A outer s H vs Q E hr h => ?_)
  · obtain ⟨a, ys, rfl, hl, _⟩ := h
    show ys.length + 1 = _
    rw [hl]
    rfl
  · obtain ⟨a, ys, rfl, hl, ha, k⟩ := h
    obtain ⟨y0, rfl⟩ : ∃ y0, ys = [y0] := by
      match ys, hl with
      | [y0], _ => exact ⟨y0, rfl⟩
    refine ⟨_, (pss_one (ps_ost (pv 0) (pv 1))), ?_⟩
    refine ⟨_, rfl, _, rfl, a, C, rfl, O, n_at, .inl ⟨ha, fun d nd ne => ?_⟩⟩
    refine k _ (fun b o hb h => by rw [upd_ne hb, upd_ne (ne_of_none h nd)]; exact h) (.inr ⟨d, upd_same, ?_⟩)
    rw [upd_ne ne]
    exact upd_same
abbrev i_Ringed : Stmt := inClass (top 6) 0
theorem ok_Ringed {f C : Addr} {fd : FuncData} (F : Fun K "__init__" "Ringed.__init__" i_Ringed f fd) (O : OexC K C) (n_table : PySem.W.findIn K (.ref C) "table" = some none) (n_column : PySem.W.findIn K (.ref C) "column" = some none) : FnOk P w K mg base CX0 1 f fd ["self", "table", "column"] (spErrI C ["table", "column"]) := by
  refine F.ok (N := ["self", "table", "column"]) ⟨rfl, rfl, rfl, by decide +kernel, rfl, by decide +kernel, by decide +kernel⟩ (fun vs H Q E h => ?_) (fun cdv A outer s H vs Q E hr h => ?_)
  · obtain ⟨a, ys, rfl, hl, _⟩ := h
    show ys.length + 1 = _
    rw [hl]
    rfl
  · obtain ⟨a, ys, rfl, hl, ha, k⟩ := h
    obtain ⟨y0, y1, rfl⟩ : ∃ y0 y1, ys = [y0, y1] := by
      match ys, hl with
      | [y0, y1], _ => exact ⟨y0, y1, rfl⟩
    refine ⟨_, (pss_cons (ps_ost (pv 0) (pv 1)) (pss_one (ps_ost (pv 0) (pv 2)))), ?_⟩
    refine ⟨_, rfl, _, rfl, a, C, rfl, O, n_table, .inl ⟨ha, fun d nd ne => ?_⟩⟩
    have ha1 : (upd (upd H d (exd d [("table", y0)])) a (exo a C (some d))) a = some (exo a C (some d)) := by first | exact upd_same | (rw [upd_ne ne.symm]; assumption)
    have hd1 : (upd (upd H d (exd d [("table", y0)])) a (exo a C (some d))) d = some (exd d [("table", y0)]) := by first | exact upd_same | (rw [upd_ne ne]; exact upd_same)
    refine ⟨_, rfl, _, rfl, a, C, rfl, O, n_column, .inr ⟨d, _, ha1, hd1, by show 1 ≤ 900; decide, ?_⟩⟩
    refine k _ (fun b o hb h => ?_) (.inr ⟨d, ?_, upd_same⟩)
    · rw [upd_ne (ne_of_none h nd), upd_ne hb, upd_ne (ne_of_none h nd)]
      exact h
    · rw [upd_ne ne.symm]
      exact upd_same
abbrev i_Unknown : Stmt := inClass (top 7) 0
theorem ok_Unknown {f C : Addr} {fd : FuncData} (F : Fun K "__init__" "Unknown.__init__" i_Unknown f fd) (O : OexC K C) (n_name : PySem.W.findIn K (.ref C) "name" = some none) : FnOk P w K mg base CX0 1 f fd ["self", "name"] (spErrI C ["name"]) := by
  refine F.ok (N := ["self", "name"]) ⟨rfl, rfl, rfl, by decide +kernel, rfl, by decide +kernel, by decide +kernel⟩ (fun vs H Q E h => ?_) (fun cdv A outer s H vs Q E hr h => ?_)
  · obtain ⟨a, ys, rfl, hl, _⟩ := h
    show ys.length + 1 = _
    rw [hl]
    rfl
  · obtain ⟨a, ys, rfl, hl, ha, k⟩ := h
    obtain ⟨y0, rfl⟩ : ∃ y0, ys = [y0] := by
      match ys, hl with
      | [y0], _ => exact ⟨y0, rfl⟩
    refine ⟨_, (pss_one (ps_ost (pv 0) (pv 1))), ?_⟩
    refine ⟨_, rfl, _, rfl, a, C, rfl, O, n_name, .inl ⟨ha, fun d nd ne => ?_⟩⟩
    refine k _ (fun b o hb h => by rw [upd_ne hb, upd_ne (ne_of_none h nd)]; exact h) (.inr ⟨d, upd_same, ?_⟩)
    rw [upd_ne ne]
    exact upd_same
abbrev i_NotFixed : Stmt := inClass (top 8) 0
theorem ok_NotFixed {f C : Addr} {fd : FuncData} (F : Fun K "__init__" "NotFixed.__init__" i_NotFixed f fd) (O : OexC K C) (n_name : PySem.W.findIn K (.ref C) "name" = some none) : FnOk P w K mg base CX0 1 f fd ["self", "name"] (spErrI C ["name"]) := by
  refine F.ok (N := ["self", "name"]) ⟨rfl, rfl, rfl, by decide +kernel, rfl, by decide +kernel, by decide +kernel⟩ (fun vs H Q E h => ?_) (fun cdv A outer s H vs Q E hr h => ?_)
  · obtain ⟨a, ys, rfl, hl, _⟩ := h
    show ys.length + 1 = _
    rw [hl]
    rfl
  · obtain ⟨a, ys, rfl, hl, ha, k⟩ := h
    obtain ⟨y0, rfl⟩ : ∃ y0, ys = [y0] := by
      match ys, hl with
      | [y0], _ => exact ⟨y0, rfl⟩
    refine ⟨_, (pss_one (ps_ost (pv 0) (pv 1))), ?_⟩
    refine ⟨_, rfl, _, rfl, a, C, rfl, O, n_name, .inl ⟨ha, fun d nd ne => ?_⟩⟩
    refine k _ (fun b o hb h => by rw [upd_ne hb, upd_ne (ne_of_none h nd)]; exact h) (.inr ⟨d, upd_same, ?_⟩)
    rw [upd_ne ne]
    exact upd_same
abbrev i_BadRow : Stmt := inClass (top 9) 0
theorem ok_BadRow {f C : Addr} {fd : FuncData} (F : Fun K "__init__" "BadRow.__init__" i_BadRow f fd) (O : OexC K C) (n_table : PySem.W.findIn K (.ref C) "table" = some none) (n_at : PySem.W.findIn K (.ref C) "at" = some none) : FnOk P w K mg base CX0 1 f fd ["self", "table", "at"] (spErrI C ["table", "at"]) := by
  refine F.ok (N := ["self", "table", "at"]) ⟨rfl, rfl, rfl, by decide +kernel, rfl, by decide +kernel, by decide +kernel⟩ (fun vs H Q E h => ?_) (fun cdv A outer s H vs Q E hr h => ?_)
  · obtain ⟨a, ys, rfl, hl, _⟩ := h
    show ys.length + 1 = _
    rw [hl]
    rfl
  · obtain ⟨a, ys, rfl, hl, ha, k⟩ := h
    obtain ⟨y0, y1, rfl⟩ : ∃ y0 y1, ys = [y0, y1] := by
      match ys, hl with
      | [y0, y1], _ => exact ⟨y0, y1, rfl⟩
    refine ⟨_, (pss_cons (ps_ost (pv 0) (pv 1)) (pss_one (ps_ost (pv 0) (pv 2)))), ?_⟩
    refine ⟨_, rfl, _, rfl, a, C, rfl, O, n_table, .inl ⟨ha, fun d nd ne => ?_⟩⟩
    have ha1 : (upd (upd H d (exd d [("table", y0)])) a (exo a C (some d))) a = some (exo a C (some d)) := by first | exact upd_same | (rw [upd_ne ne.symm]; assumption)
    have hd1 : (upd (upd H d (exd d [("table", y0)])) a (exo a C (some d))) d = some (exd d [("table", y0)]) := by first | exact upd_same | (rw [upd_ne ne]; exact upd_same)
    refine ⟨_, rfl, _, rfl, a, C, rfl, O, n_at, .inr ⟨d, _, ha1, hd1, by show 1 ≤ 900; decide, ?_⟩⟩
    refine k _ (fun b o hb h => ?_) (.inr ⟨d, ?_, upd_same⟩)
    · rw [upd_ne (ne_of_none h nd), upd_ne hb, upd_ne (ne_of_none h nd)]
      exact h
    · rw [upd_ne ne.symm]
      exact upd_same
abbrev i_Missing : Stmt := inClass (top 10) 0
theorem ok_Missing {f C : Addr} {fd : FuncData} (F : Fun K "__init__" "Missing.__init__" i_Missing f fd) (O : OexC K C) (n_name : PySem.W.findIn K (.ref C) "name" = some none) : FnOk P w K mg base CX0 1 f fd ["self", "name"] (spErrI C ["name"]) := by
  refine F.ok (N := ["self", "name"]) ⟨rfl, rfl, rfl, by decide +kernel, rfl, by decide +kernel, by decide +kernel⟩ (fun vs H Q E h => ?_) (fun cdv A outer s H vs Q E hr h => ?_)
  · obtain ⟨a, ys, rfl, hl, _⟩ := h
    show ys.length + 1 = _
    rw [hl]
    rfl
  · obtain ⟨a, ys, rfl, hl, ha, k⟩ := h
    obtain ⟨y0, rfl⟩ : ∃ y0, ys = [y0] := by
      match ys, hl with
      | [y0], _ => exact ⟨y0, rfl⟩
    refine ⟨_, (pss_one (ps_ost (pv 0) (pv 1))), ?_⟩
    refine ⟨_, rfl, _, rfl, a, C, rfl, O, n_name, .inl ⟨ha, fun d nd ne => ?_⟩⟩
    refine k _ (fun b o hb h => by rw [upd_ne hb, upd_ne (ne_of_none h nd)]; exact h) (.inr ⟨d, upd_same, ?_⟩)
    rw [upd_ne ne]
    exact upd_same
abbrev i_BadItem : Stmt := inClass (top 11) 0
theorem ok_BadItem {f C : Addr} {fd : FuncData} (F : Fun K "__init__" "BadItem.__init__" i_BadItem f fd) (O : OexC K C) (n_at : PySem.W.findIn K (.ref C) "at" = some none) : FnOk P w K mg base CX0 1 f fd ["self", "at"] (spErrI C ["at"]) := by
  refine F.ok (N := ["self", "at"]) ⟨rfl, rfl, rfl, by decide +kernel, rfl, by decide +kernel, by decide +kernel⟩ (fun vs H Q E h => ?_) (fun cdv A outer s H vs Q E hr h => ?_)
  · obtain ⟨a, ys, rfl, hl, _⟩ := h
    show ys.length + 1 = _
    rw [hl]
    rfl
  · obtain ⟨a, ys, rfl, hl, ha, k⟩ := h
    obtain ⟨y0, rfl⟩ : ∃ y0, ys = [y0] := by
      match ys, hl with
      | [y0], _ => exact ⟨y0, rfl⟩
    refine ⟨_, (pss_one (ps_ost (pv 0) (pv 1))), ?_⟩
    refine ⟨_, rfl, _, rfl, a, C, rfl, O, n_at, .inl ⟨ha, fun d nd ne => ?_⟩⟩
    refine k _ (fun b o hb h => by rw [upd_ne hb, upd_ne (ne_of_none h nd)]; exact h) (.inr ⟨d, upd_same, ?_⟩)
    rw [upd_ne ne]
    exact upd_same
abbrev i_BadShown : Stmt := inClass (top 12) 0
theorem ok_BadShown {f C : Addr} {fd : FuncData} (F : Fun K "__init__" "BadShown.__init__" i_BadShown f fd) (O : OexC K C) (n_at : PySem.W.findIn K (.ref C) "at" = some none) : FnOk P w K mg base CX0 1 f fd ["self", "at"] (spErrI C ["at"]) := by
  refine F.ok (N := ["self", "at"]) ⟨rfl, rfl, rfl, by decide +kernel, rfl, by decide +kernel, by decide +kernel⟩ (fun vs H Q E h => ?_) (fun cdv A outer s H vs Q E hr h => ?_)
  · obtain ⟨a, ys, rfl, hl, _⟩ := h
    show ys.length + 1 = _
    rw [hl]
    rfl
  · obtain ⟨a, ys, rfl, hl, ha, k⟩ := h
    obtain ⟨y0, rfl⟩ : ∃ y0, ys = [y0] := by
      match ys, hl with
      | [y0], _ => exact ⟨y0, rfl⟩
    refine ⟨_, (pss_one (ps_ost (pv 0) (pv 1))), ?_⟩
    refine ⟨_, rfl, _, rfl, a, C, rfl, O, n_at, .inl ⟨ha, fun d nd ne => ?_⟩⟩
    refine k _ (fun b o hb h => by rw [upd_ne hb, upd_ne (ne_of_none h nd)]; exact h) (.inr ⟨d, upd_same, ?_⟩)
    rw [upd_ne ne]
    exact upd_same
abbrev i_BadMark : Stmt := inClass (top 13) 0
theorem ok_BadMark {f C : Addr} {fd : FuncData} (F : Fun K "__init__" "BadMark.__init__" i_BadMark f fd) (O : OexC K C) (n_name : PySem.W.findIn K (.ref C) "name" = some none) : FnOk P w K mg base CX0 1 f fd ["self", "name"] (spErrI C ["name"]) := by
  refine F.ok (N := ["self", "name"]) ⟨rfl, rfl, rfl, by decide +kernel, rfl, by decide +kernel, by decide +kernel⟩ (fun vs H Q E h => ?_) (fun cdv A outer s H vs Q E hr h => ?_)
  · obtain ⟨a, ys, rfl, hl, _⟩ := h
    show ys.length + 1 = _
    rw [hl]
    rfl
  · obtain ⟨a, ys, rfl, hl, ha, k⟩ := h
    obtain ⟨y0, rfl⟩ : ∃ y0, ys = [y0] := by
      match ys, hl with
      | [y0], _ => exact ⟨y0, rfl⟩
    refine ⟨_, (pss_one (ps_ost (pv 0) (pv 1))), ?_⟩
    refine ⟨_, rfl, _, rfl, a, C, rfl, O, n_name, .inl ⟨ha, fun d nd ne => ?_⟩⟩
    refine k _ (fun b o hb h => by rw [upd_ne hb, upd_ne (ne_of_none h nd)]; exact h) (.inr ⟨d, upd_same, ?_⟩)
    rw [upd_ne ne]
    exact upd_same
abbrev i_NoUse : Stmt := inClass (top 14) 0
theorem ok_NoUse {f C : Addr} {fd : FuncData} (F : Fun K "__init__" "NoUse.__init__" i_NoUse f fd) (O : OexC K C) : FnOk P w K mg base CX0 1 f fd ["self"] (spErrI C []) := by
  refine F.ok (N := ["self"]) ⟨rfl, rfl, rfl, by decide +kernel, rfl, by decide +kernel, by decide +kernel⟩ (fun vs H Q E h => ?_) (fun cdv A outer s H vs Q E hr h => ?_)
  · obtain ⟨a, ys, rfl, hl, _⟩ := h
    show ys.length + 1 = _
    rw [hl]
    rfl
  · obtain ⟨a, ys, rfl, hl, ha, k⟩ := h
    obtain rfl :  ys = [] := by
      exact List.length_eq_zero_iff.mp hl
    refine ⟨_, pss_one ps_pass, ?_⟩
    exact k H (fun _ _ _ h => h) (.inl ⟨rfl, ha⟩)
abbrev i_Hidden : Stmt := inClass (top 15) 0
theorem ok_Hidden {f C : Addr} {fd : FuncData} (F : Fun K "__init__" "Hidden.__init__" i_Hidden f fd) (O : OexC K C) (n_place : PySem.W.findIn K (.ref C) "place" = some none) (n_loop : PySem.W.findIn K (.ref C) "loop" = some none) : FnOk P w K mg base CX0 1 f fd ["self", "place", "loop"] (spErrI C ["place", "loop"]) := by
  refine F.ok (N := ["self", "place", "loop"]) ⟨rfl, rfl, rfl, by decide +kernel, rfl, by decide +kernel, by decide +kernel⟩ (fun vs H Q E h => ?_) (fun cdv A outer s H vs Q E hr h => ?_)
  · obtain ⟨a, ys, rfl, hl, _⟩ := h
    show ys.length + 1 = _
    rw [hl]
    rfl
  · obtain ⟨a, ys, rfl, hl, ha, k⟩ := h
    obtain ⟨y0, y1, rfl⟩ : ∃ y0 y1, ys = [y0, y1] := by
      match ys, hl with
      | [y0, y1], _ => exact ⟨y0, y1, rfl⟩
    refine ⟨_, (pss_cons (ps_ost (pv 0) (pv 1)) (pss_one (ps_ost (pv 0) (pv 2)))), ?_⟩
    refine ⟨_, rfl, _, rfl, a, C, rfl, O, n_place, .inl ⟨ha, fun d nd ne => ?_⟩⟩
    have ha1 : (upd (upd H d (exd d [("place", y0)])) a (exo a C (some d))) a = some (exo a C (some d)) := by first | exact upd_same | (rw [upd_ne ne.symm]; assumption)
    have hd1 : (upd (upd H d (exd d [("place", y0)])) a (exo a C (some d))) d = some (exd d [("place", y0)]) := by first | exact upd_same | (rw [upd_ne ne]; exact upd_same)
    refine ⟨_, rfl, _, rfl, a, C, rfl, O, n_loop, .inr ⟨d, _, ha1, hd1, by show 1 ≤ 900; decide, ?_⟩⟩
    refine k _ (fun b o hb h => ?_) (.inr ⟨d, ?_, upd_same⟩)
    · rw [upd_ne (ne_of_none h nd), upd_ne hb, upd_ne (ne_of_none h nd)]
      exact h
    · rw [upd_ne ne.symm]
      exact upd_same
abbrev i_Loose : Stmt := inClass (top 16) 0
theorem ok_Loose {f C : Addr} {fd : FuncData} (F : Fun K "__init__" "Loose.__init__" i_Loose f fd) (O : OexC K C) (n_at : PySem.W.findIn K (.ref C) "at" = some none) : FnOk P w K mg base CX0 1 f fd ["self", "at"] (spErrI C ["at"]) := by
  refine F.ok (N := ["self", "at"]) ⟨rfl, rfl, rfl, by decide +kernel, rfl, by decide +kernel, by decide +kernel⟩ (fun vs H Q E h => ?_) (fun cdv A outer s H vs Q E hr h => ?_)
  · obtain ⟨a, ys, rfl, hl, _⟩ := h
    show ys.length + 1 = _
    rw [hl]
    rfl
  · obtain ⟨a, ys, rfl, hl, ha, k⟩ := h
    obtain ⟨y0, rfl⟩ : ∃ y0, ys = [y0] := by
      match ys, hl with
      | [y0], _ => exact ⟨y0, rfl⟩
    refine ⟨_, (pss_one (ps_ost (pv 0) (pv 1))), ?_⟩
    refine ⟨_, rfl, _, rfl, a, C, rfl, O, n_at, .inl ⟨ha, fun d nd ne => ?_⟩⟩
    refine k _ (fun b o hb h => by rw [upd_ne hb, upd_ne (ne_of_none h nd)]; exact h) (.inr ⟨d, upd_same, ?_⟩)
    rw [upd_ne ne]
    exact upd_same
abbrev i_NoSite : Stmt := inClass (top 17) 0
theorem ok_NoSite {f C : Addr} {fd : FuncData} (F : Fun K "__init__" "NoSite.__init__" i_NoSite f fd) (O : OexC K C) (n_stream : PySem.W.findIn K (.ref C) "stream" = some none) (n_index : PySem.W.findIn K (.ref C) "index" = some none) : FnOk P w K mg base CX0 1 f fd ["self", "stream", "index"] (spErrI C ["stream", "index"]) := by
  refine F.ok (N := ["self", "stream", "index"]) ⟨rfl, rfl, rfl, by decide +kernel, rfl, by decide +kernel, by decide +kernel⟩ (fun vs H Q E h => ?_) (fun cdv A outer s H vs Q E hr h => ?_)
  · obtain ⟨a, ys, rfl, hl, _⟩ := h
    show ys.length + 1 = _
    rw [hl]
    rfl
  · obtain ⟨a, ys, rfl, hl, ha, k⟩ := h
    obtain ⟨y0, y1, rfl⟩ : ∃ y0 y1, ys = [y0, y1] := by
      match ys, hl with
      | [y0, y1], _ => exact ⟨y0, y1, rfl⟩
    refine ⟨_, (pss_cons (ps_ost (pv 0) (pv 1)) (pss_one (ps_ost (pv 0) (pv 2)))), ?_⟩
    refine ⟨_, rfl, _, rfl, a, C, rfl, O, n_stream, .inl ⟨ha, fun d nd ne => ?_⟩⟩
    have ha1 : (upd (upd H d (exd d [("stream", y0)])) a (exo a C (some d))) a = some (exo a C (some d)) := by first | exact upd_same | (rw [upd_ne ne.symm]; assumption)
    have hd1 : (upd (upd H d (exd d [("stream", y0)])) a (exo a C (some d))) d = some (exd d [("stream", y0)]) := by first | exact upd_same | (rw [upd_ne ne]; exact upd_same)
    refine ⟨_, rfl, _, rfl, a, C, rfl, O, n_index, .inr ⟨d, _, ha1, hd1, by show 1 ≤ 900; decide, ?_⟩⟩
    refine k _ (fun b o hb h => ?_) (.inr ⟨d, ?_, upd_same⟩)
    · rw [upd_ne (ne_of_none h nd), upd_ne hb, upd_ne (ne_of_none h nd)]
      exact h
    · rw [upd_ne ne.symm]
      exact upd_same
abbrev i_Unlike : Stmt := inClass (top 18) 0
theorem ok_Unlike {f C : Addr} {fd : FuncData} (F : Fun K "__init__" "Unlike.__init__" i_Unlike f fd) (O : OexC K C) : FnOk P w K mg base CX0 1 f fd ["self"] (spErrI C []) := by
  refine F.ok (N := ["self"]) ⟨rfl, rfl, rfl, by decide +kernel, rfl, by decide +kernel, by decide +kernel⟩ (fun vs H Q E h => ?_) (fun cdv A outer s H vs Q E hr h => ?_)
  · obtain ⟨a, ys, rfl, hl, _⟩ := h
    show ys.length + 1 = _
    rw [hl]
    rfl
  · obtain ⟨a, ys, rfl, hl, ha, k⟩ := h
    obtain rfl :  ys = [] := by
      exact List.length_eq_zero_iff.mp hl
    refine ⟨_, pss_one ps_pass, ?_⟩
    exact k H (fun _ _ _ h => h) (.inl ⟨rfl, ha⟩)
abbrev i_Parted : Stmt := inClass (top 19) 0
theorem ok_Parted {f C : Addr} {fd : FuncData} (F : Fun K "__init__" "Parted.__init__" i_Parted f fd) (O : OexC K C) (n_stream : PySem.W.findIn K (.ref C) "stream" = some none) (n_index : PySem.W.findIn K (.ref C) "index" = some none) (n_word : PySem.W.findIn K (.ref C) "word" = some none) : FnOk P w K mg base CX0 1 f fd ["self", "stream", "index", "word"] (spErrI C ["stream", "index", "word"]) := by
  refine F.ok (N := ["self", "stream", "index", "word"]) ⟨rfl, rfl, rfl, by decide +kernel, rfl, by decide +kernel, by decide +kernel⟩ (fun vs H Q E h => ?_) (fun cdv A outer s H vs Q E hr h => ?_)
  · obtain ⟨a, ys, rfl, hl, _⟩ := h
    show ys.length + 1 = _
    rw [hl]
    rfl
  · obtain ⟨a, ys, rfl, hl, ha, k⟩ := h
    obtain ⟨y0, y1, y2, rfl⟩ : ∃ y0 y1 y2, ys = [y0, y1, y2] := by
      match ys, hl with
      | [y0, y1, y2], _ => exact ⟨y0, y1, y2, rfl⟩
    refine ⟨_, (pss_cons (ps_ost (pv 0) (pv 1)) (pss_cons (ps_ost (pv 0) (pv 2)) (pss_one (ps_ost (pv 0) (pv 3))))), ?_⟩
    refine ⟨_, rfl, _, rfl, a, C, rfl, O, n_stream, .inl ⟨ha, fun d nd ne => ?_⟩⟩
    have ha1 : (upd (upd H d (exd d [("stream", y0)])) a (exo a C (some d))) a = some (exo a C (some d)) := by first | exact upd_same | (rw [upd_ne ne.symm]; assumption)
    have hd1 : (upd (upd H d (exd d [("stream", y0)])) a (exo a C (some d))) d = some (exd d [("stream", y0)]) := by first | exact upd_same | (rw [upd_ne ne]; exact upd_same)
    refine ⟨_, rfl, _, rfl, a, C, rfl, O, n_index, .inr ⟨d, _, ha1, hd1, by show 1 ≤ 900; decide, ?_⟩⟩
    have ha2 : (upd (upd (upd H d (exd d [("stream", y0)])) a (exo a C (some d))) d (exd d (("index", y1) :: [("stream", y0)]))) a = some (exo a C (some d)) := by first | exact upd_same | (rw [upd_ne ne.symm]; assumption)
    have hd2 : (upd (upd (upd H d (exd d [("stream", y0)])) a (exo a C (some d))) d (exd d (("index", y1) :: [("stream", y0)]))) d = some (exd d (("index", y1) :: [("stream", y0)])) := by first | exact upd_same | (rw [upd_ne ne]; exact upd_same)
    refine ⟨_, rfl, _, rfl, a, C, rfl, O, n_word, .inr ⟨d, _, ha2, hd2, by show 2 ≤ 900; decide, ?_⟩⟩
    refine k _ (fun b o hb h => ?_) (.inr ⟨d, ?_, upd_same⟩)
    · rw [upd_ne (ne_of_none h nd), upd_ne (ne_of_none h nd), upd_ne hb, upd_ne (ne_of_none h nd)]
      exact h
    · rw [upd_ne ne.symm, upd_ne ne.symm]
      exact upd_same
abbrev i_NoNumber : Stmt := inClass (top 20) 0
theorem ok_NoNumber {f C : Addr} {fd : FuncData} (F : Fun K "__init__" "NoNumber.__init__" i_NoNumber f fd) (O : OexC K C) (n_number : PySem.W.findIn K (.ref C) "number" = some none) : FnOk P w K mg base CX0 1 f fd ["self", "number"] (spErrI C ["number"]) := by
  refine F.ok (N := ["self", "number"]) ⟨rfl, rfl, rfl, by decide +kernel, rfl, by decide +kernel, by decide +kernel⟩ (fun vs H Q E h => ?_) (fun cdv A outer s H vs Q E hr h => ?_)
  · obtain ⟨a, ys, rfl, hl, _⟩ := h
    show ys.length + 1 = _
    rw [hl]
    rfl
  · obtain ⟨a, ys, rfl, hl, ha, k⟩ := h
    obtain ⟨y0, rfl⟩ : ∃ y0, ys = [y0] := by
      match ys, hl with
      | [y0], _ => exact ⟨y0, rfl⟩
    refine ⟨_, (pss_one (ps_ost (pv 0) (pv 1))), ?_⟩
    refine ⟨_, rfl, _, rfl, a, C, rfl, O, n_number, .inl ⟨ha, fun d nd ne => ?_⟩⟩
    refine k _ (fun b o hb h => by rw [upd_ne hb, upd_ne (ne_of_none h nd)]; exact h) (.inr ⟨d, upd_same, ?_⟩)
    rw [upd_ne ne]
    exact upd_same
abbrev i_NoMove : Stmt := inClass (top 21) 0
theorem ok_NoMove {f C : Addr} {fd : FuncData} (F : Fun K "__init__" "NoMove.__init__" i_NoMove f fd) (O : OexC K C) : FnOk P w K mg base CX0 1 f fd ["self"] (spErrI C []) := by
  refine F.ok (N := ["self"]) ⟨rfl, rfl, rfl, by decide +kernel, rfl, by decide +kernel, by decide +kernel⟩ (fun vs H Q E h => ?_) (fun cdv A outer s H vs Q E hr h => ?_)
  · obtain ⟨a, ys, rfl, hl, _⟩ := h
    show ys.length + 1 = _
    rw [hl]
    rfl
  · obtain ⟨a, ys, rfl, hl, ha, k⟩ := h
    obtain rfl :  ys = [] := by
      exact List.length_eq_zero_iff.mp hl
    refine ⟨_, pss_one ps_pass, ?_⟩
    exact k H (fun _ _ _ h => h) (.inl ⟨rfl, ha⟩)
abbrev i_Twice : Stmt := inClass (top 22) 0
theorem ok_Twice {f C : Addr} {fd : FuncData} (F : Fun K "__init__" "Twice.__init__" i_Twice f fd) (O : OexC K C) (n_table : PySem.W.findIn K (.ref C) "table" = some none) : FnOk P w K mg base CX0 1 f fd ["self", "table"] (spErrI C ["table"]) := by
  refine F.ok (N := ["self", "table"]) ⟨rfl, rfl, rfl, by decide +kernel, rfl, by decide +kernel, by decide +kernel⟩ (fun vs H Q E h => ?_) (fun cdv A outer s H vs Q E hr h => ?_)
  · obtain ⟨a, ys, rfl, hl, _⟩ := h
    show ys.length + 1 = _
    rw [hl]
    rfl
  · obtain ⟨a, ys, rfl, hl, ha, k⟩ := h
    obtain ⟨y0, rfl⟩ : ∃ y0, ys = [y0] := by
      match ys, hl with
      | [y0], _ => exact ⟨y0, rfl⟩
    refine ⟨_, (pss_one (ps_ost (pv 0) (pv 1))), ?_⟩
    refine ⟨_, rfl, _, rfl, a, C, rfl, O, n_table, .inl ⟨ha, fun d nd ne => ?_⟩⟩
    refine k _ (fun b o hb h => by rw [upd_ne hb, upd_ne (ne_of_none h nd)]; exact h) (.inr ⟨d, upd_same, ?_⟩)
    rw [upd_ne ne]
    exact upd_same
abbrev i_TooMany : Stmt := inClass (top 23) 0
theorem ok_TooMany {f C : Addr} {fd : FuncData} (F : Fun K "__init__" "TooMany.__init__" i_TooMany f fd) (O : OexC K C) (n_limit : PySem.W.findIn K (.ref C) "limit" = some none) : FnOk P w K mg base CX0 1 f fd ["self", "limit"] (spErrI C ["limit"]) := by
  refine F.ok (N := ["self", "limit"]) ⟨rfl, rfl, rfl, by decide +kernel, rfl, by decide +kernel, by decide +kernel⟩ (fun vs H Q E h => ?_) (fun cdv A outer s H vs Q E hr h => ?_)
  · obtain ⟨a, ys, rfl, hl, _⟩ := h
    show ys.length + 1 = _
    rw [hl]
    rfl
  · obtain ⟨a, ys, rfl, hl, ha, k⟩ := h
    obtain ⟨y0, rfl⟩ : ∃ y0, ys = [y0] := by
      match ys, hl with
      | [y0], _ => exact ⟨y0, rfl⟩
    refine ⟨_, (pss_one (ps_ost (pv 0) (pv 1))), ?_⟩
    refine ⟨_, rfl, _, rfl, a, C, rfl, O, n_limit, .inl ⟨ha, fun d nd ne => ?_⟩⟩
    refine k _ (fun b o hb h => by rw [upd_ne hb, upd_ne (ne_of_none h nd)]; exact h) (.inr ⟨d, upd_same, ?_⟩)
    rw [upd_ne ne]
    exact upd_same
abbrev i_Full : Stmt := inClass (top 24) 0
theorem ok_Full {f C : Addr} {fd : FuncData} (F : Fun K "__init__" "Full.__init__" i_Full f fd) (O : OexC K C) (n_limit : PySem.W.findIn K (.ref C) "limit" = some none) : FnOk P w K mg base CX0 1 f fd ["self", "limit"] (spErrI C ["limit"]) := by
  refine F.ok (N := ["self", "limit"]) ⟨rfl, rfl, rfl, by decide +kernel, rfl, by decide +kernel, by decide +kernel⟩ (fun vs H Q E h => ?_) (fun cdv A outer s H vs Q E hr h => ?_)
  · obtain ⟨a, ys, rfl, hl, _⟩ := h
    show ys.length + 1 = _
    rw [hl]
    rfl
  · obtain ⟨a, ys, rfl, hl, ha, k⟩ := h
    obtain ⟨y0, rfl⟩ : ∃ y0, ys = [y0] := by
      match ys, hl with
      | [y0], _ => exact ⟨y0, rfl⟩
    refine ⟨_, (pss_one (ps_ost (pv 0) (pv 1))), ?_⟩
    refine ⟨_, rfl, _, rfl, a, C, rfl, O, n_limit, .inl ⟨ha, fun d nd ne => ?_⟩⟩
    refine k _ (fun b o hb h => by rw [upd_ne hb, upd_ne (ne_of_none h nd)]; exact h) (.inr ⟨d, upd_same, ?_⟩)
    rw [upd_ne ne]
    exact upd_same
abbrev i_Unfit : Stmt := inClass (top 25) 0
theorem ok_Unfit {f C : Addr} {fd : FuncData} (F : Fun K "__init__" "Unfit.__init__" i_Unfit f fd) (O : OexC K C) : FnOk P w K mg base CX0 1 f fd ["self"] (spErrI C []) := by
  refine F.ok (N := ["self"]) ⟨rfl, rfl, rfl, by decide +kernel, rfl, by decide +kernel, by decide +kernel⟩ (fun vs H Q E h => ?_) (fun cdv A outer s H vs Q E hr h => ?_)
  · obtain ⟨a, ys, rfl, hl, _⟩ := h
    show ys.length + 1 = _
    rw [hl]
    rfl
  · obtain ⟨a, ys, rfl, hl, ha, k⟩ := h
    obtain rfl :  ys = [] := by
      exact List.length_eq_zero_iff.mp hl
    refine ⟨_, pss_one ps_pass, ?_⟩
    exact k H (fun _ _ _ h => h) (.inl ⟨rfl, ha⟩)
abbrev i_Nothing : Stmt := inClass (top 26) 0
theorem ok_Nothing {f C : Addr} {fd : FuncData} (F : Fun K "__init__" "Nothing.__init__" i_Nothing f fd) (O : OexC K C) : FnOk P w K mg base CX0 1 f fd ["self"] (spErrI C []) := by
  refine F.ok (N := ["self"]) ⟨rfl, rfl, rfl, by decide +kernel, rfl, by decide +kernel, by decide +kernel⟩ (fun vs H Q E h => ?_) (fun cdv A outer s H vs Q E hr h => ?_)
  · obtain ⟨a, ys, rfl, hl, _⟩ := h
    show ys.length + 1 = _
    rw [hl]
    rfl
  · obtain ⟨a, ys, rfl, hl, ha, k⟩ := h
    obtain rfl :  ys = [] := by
      exact List.length_eq_zero_iff.mp hl
    refine ⟨_, pss_one ps_pass, ?_⟩
    exact k H (fun _ _ _ h => h) (.inl ⟨rfl, ha⟩)
abbrev i_NoEntry : Stmt := inClass (top 27) 0
theorem ok_NoEntry {f C : Addr} {fd : FuncData} (F : Fun K "__init__" "NoEntry.__init__" i_NoEntry f fd) (O : OexC K C) (n_many : PySem.W.findIn K (.ref C) "many" = some none) : FnOk P w K mg base CX0 1 f fd ["self", "many"] (spErrI C ["many"]) := by
  refine F.ok (N := ["self", "many"]) ⟨rfl, rfl, rfl, by decide +kernel, rfl, by decide +kernel, by decide +kernel⟩ (fun vs H Q E h => ?_) (fun cdv A outer s H vs Q E hr h => ?_)
  · obtain ⟨a, ys, rfl, hl, _⟩ := h
    show ys.length + 1 = _
    rw [hl]
    rfl
  · obtain ⟨a, ys, rfl, hl, ha, k⟩ := h
    obtain ⟨y0, rfl⟩ : ∃ y0, ys = [y0] := by
      match ys, hl with
      | [y0], _ => exact ⟨y0, rfl⟩
    refine ⟨_, (pss_one (ps_ost (pv 0) (pv 1))), ?_⟩
    refine ⟨_, rfl, _, rfl, a, C, rfl, O, n_many, .inl ⟨ha, fun d nd ne => ?_⟩⟩
    refine k _ (fun b o hb h => by rw [upd_ne hb, upd_ne (ne_of_none h nd)]; exact h) (.inr ⟨d, upd_same, ?_⟩)
    rw [upd_ne ne]
    exact upd_same
abbrev i_NoText : Stmt := inClass (top 28) 0
theorem ok_NoText {f C : Addr} {fd : FuncData} (F : Fun K "__init__" "NoText.__init__" i_NoText f fd) (O : OexC K C) : FnOk P w K mg base CX0 1 f fd ["self"] (spErrI C []) := by
  refine F.ok (N := ["self"]) ⟨rfl, rfl, rfl, by decide +kernel, rfl, by decide +kernel, by decide +kernel⟩ (fun vs H Q E h => ?_) (fun cdv A outer s H vs Q E hr h => ?_)
  · obtain ⟨a, ys, rfl, hl, _⟩ := h
    show ys.length + 1 = _
    rw [hl]
    rfl
  · obtain ⟨a, ys, rfl, hl, ha, k⟩ := h
    obtain rfl :  ys = [] := by
      exact List.length_eq_zero_iff.mp hl
    refine ⟨_, pss_one ps_pass, ?_⟩
    exact k H (fun _ _ _ h => h) (.inl ⟨rfl, ha⟩)
abbrev i_NoCommand : Stmt := inClass (top 29) 0
theorem ok_NoCommand {f C : Addr} {fd : FuncData} (F : Fun K "__init__" "NoCommand.__init__" i_NoCommand f fd) (O : OexC K C) : FnOk P w K mg base CX0 1 f fd ["self"] (spErrI C []) := by
  refine F.ok (N := ["self"]) ⟨rfl, rfl, rfl, by decide +kernel, rfl, by decide +kernel, by decide +kernel⟩ (fun vs H Q E h => ?_) (fun cdv A outer s H vs Q E hr h => ?_)
  · obtain ⟨a, ys, rfl, hl, _⟩ := h
    show ys.length + 1 = _
    rw [hl]
    rfl
  · obtain ⟨a, ys, rfl, hl, ha, k⟩ := h
    obtain rfl :  ys = [] := by
      exact List.length_eq_zero_iff.mp hl
    refine ⟨_, pss_one ps_pass, ?_⟩
    exact k H (fun _ _ _ h => h) (.inl ⟨rfl, ha⟩)
end
end AL
namespace AL
open PySem PySem.Spec PyProof.Rows L2
abbrev s_classes : Stmt := top 36
theorem ErrOf.ext {H H' : Hp} {a C : Addr} (e : Ext H H') : ErrOf H a C → ErrOf H' a C
  | .inl ⟨fs, h⟩ => .inl ⟨fs, h.ext e⟩
  | .inr h => .inr (e _ _ h)
section
variable {P : Program} {w : World} {K : PySem.W.Frag} {mg : Str → Option Value} {base : Heap} {c : Nat → Addr}
def Row (K : PySem.W.Frag) (c : Nat → Addr) (C : Addr) (r : Nat → Bool) : Prop := ∀ j, j < 28 → PySem.W.kitOne K (.ref C) (.ref (c j)) = some (r j)
def spClasses (K : PySem.W.Frag) (c : Nat → Addr) : Sp := fun vs H Q _ => ∃ (a C : Addr) (r : Nat → Bool), vs = [.ref a] ∧ ErrOf H a C ∧ ExcC K C ∧ Row K c C r ∧
  ∀ p H', H p = none → Ext H H' → H' p = some (.lst ((List.range 28).map fun j => .bl (r j))) → Q (.ref p) H'
theorem ok_classes {f : Addr} {fd : FuncData} (F : Fun K "_law_classes" "_law_classes" s_classes f fd) (T : Blt mg) (g_Parted : mg "Parted" = some (.ref (c 0))) (g_Ringed : mg "Ringed" = some (.ref (c 1))) (g_BadRow : mg "BadRow" = some (.ref (c 2))) (g_Hidden : mg "Hidden" = some (.ref (c 3))) (g_NoSite : mg "NoSite" = some (.ref (c 4))) (g_Wrong : mg "Wrong" = some (.ref (c 5))) (g_BadKey : mg "BadKey" = some (.ref (c 6))) (g_BadReference : mg "BadReference" = some (.ref (c 7))) (g_BadMade : mg "BadMade" = some (.ref (c 8))) (g_Unknown : mg "Unknown" = some (.ref (c 9))) (g_NotFixed : mg "NotFixed" = some (.ref (c 10))) (g_Missing : mg "Missing" = some (.ref (c 11))) (g_BadItem : mg "BadItem" = some (.ref (c 12))) (g_BadShown : mg "BadShown" = some (.ref (c 13))) (g_BadMark : mg "BadMark" = some (.ref (c 14))) (g_Loose : mg "Loose" = some (.ref (c 15))) (g_NoNumber : mg "NoNumber" = some (.ref (c 16))) (g_Twice : mg "Twice" = some (.ref (c 17))) (g_TooMany : mg "TooMany" = some (.ref (c 18))) (g_Full : mg "Full" = some (.ref (c 19))) (g_NoEntry : mg "NoEntry" = some (.ref (c 20))) (g_NoUse : mg "NoUse" = some (.ref (c 21))) (g_Unlike : mg "Unlike" = some (.ref (c 22))) (g_NoMove : mg "NoMove" = some (.ref (c 23))) (g_Unfit : mg "Unfit" = some (.ref (c 24))) (g_Nothing : mg "Nothing" = some (.ref (c 25))) (g_NoText : mg "NoText" = some (.ref (c 26))) (g_NoCommand : mg "NoCommand" = some (.ref (c 27))) : FnOk P w K mg base CX0 1 f fd ["_law_e"] (spClasses K c) := by
  refine F.ok (N := ["_law_e", "_law_found"]) ⟨rfl, rfl, rfl, by decide +kernel, rfl, by decide +kernel, by decide +kernel⟩ (fun vs H Q E h => ?_) (fun cdv A outer s H vs Q E hr h => ?_)
  · obtain ⟨a, C, r, rfl, _⟩ := h
    rfl
  · obtain ⟨a, C, r, rfl, he, cc, row, k⟩ := h
    have nd : (["_law_e", "_law_found"] : List Str).Nodup := by decide +kernel
    refine ⟨_, (pss_cons (ps_set (i := 1) nd rfl (.inl rfl) (pe_lst (pa_cons (pe_callB call_isErr (by rfl) T.isinstance (by decide +kernel) (pa_cons (pv 0) (pa_cons (pe_glob rfl g_Parted (v := .ref (c 0)) rfl) pa_nil))) (pa_cons (pe_callB call_isErr (by rfl) T.isinstance (by decide +kernel) (pa_cons (pv 0) (pa_cons (pe_glob rfl g_Ringed (v := .ref (c 1)) rfl) pa_nil))) (pa_cons (pe_callB call_isErr (by rfl) T.isinstance (by decide +kernel) (pa_cons (pv 0) (pa_cons (pe_glob rfl g_BadRow (v := .ref (c 2)) rfl) pa_nil))) (pa_cons (pe_callB call_isErr (by rfl) T.isinstance (by decide +kernel) (pa_cons (pv 0) (pa_cons (pe_glob rfl g_Hidden (v := .ref (c 3)) rfl) pa_nil))) pa_nil)))))) (pss_cons (ps_set (i := 1) nd rfl (.inl rfl) (pe_op op_cat (pv 1) (pe_lst (pa_cons (pe_callB call_isErr (by rfl) T.isinstance (by decide +kernel) (pa_cons (pv 0) (pa_cons (pe_glob rfl g_NoSite (v := .ref (c 4)) rfl) pa_nil))) (pa_cons (pe_callB call_isErr (by rfl) T.isinstance (by decide +kernel) (pa_cons (pv 0) (pa_cons (pe_glob rfl g_Wrong (v := .ref (c 5)) rfl) pa_nil))) (pa_cons (pe_callB call_isErr (by rfl) T.isinstance (by decide +kernel) (pa_cons (pv 0) (pa_cons (pe_glob rfl g_BadKey (v := .ref (c 6)) rfl) pa_nil))) (pa_cons (pe_callB call_isErr (by rfl) T.isinstance (by decide +kernel) (pa_cons (pv 0) (pa_cons (pe_glob rfl g_BadReference (v := .ref (c 7)) rfl) pa_nil))) pa_nil))))))) (pss_cons (ps_set (i := 1) nd rfl (.inl rfl) (pe_op op_cat (pv 1) (pe_lst (pa_cons (pe_callB call_isErr (by rfl) T.isinstance (by decide +kernel) (pa_cons (pv 0) (pa_cons (pe_glob rfl g_BadMade (v := .ref (c 8)) rfl) pa_nil))) (pa_cons (pe_callB call_isErr (by rfl) T.isinstance (by decide +kernel) (pa_cons (pv 0) (pa_cons (pe_glob rfl g_Unknown (v := .ref (c 9)) rfl) pa_nil))) (pa_cons (pe_callB call_isErr (by rfl) T.isinstance (by decide +kernel) (pa_cons (pv 0) (pa_cons (pe_glob rfl g_NotFixed (v := .ref (c 10)) rfl) pa_nil))) (pa_cons (pe_callB call_isErr (by rfl) T.isinstance (by decide +kernel) (pa_cons (pv 0) (pa_cons (pe_glob rfl g_Missing (v := .ref (c 11)) rfl) pa_nil))) pa_nil))))))) (pss_cons (ps_set (i := 1) nd rfl (.inl rfl) (pe_op op_cat (pv 1) (pe_lst (pa_cons (pe_callB call_isErr (by rfl) T.isinstance (by decide +kernel) (pa_cons (pv 0) (pa_cons (pe_glob rfl g_BadItem (v := .ref (c 12)) rfl) pa_nil))) (pa_cons (pe_callB call_isErr (by rfl) T.isinstance (by decide +kernel) (pa_cons (pv 0) (pa_cons (pe_glob rfl g_BadShown (v := .ref (c 13)) rfl) pa_nil))) (pa_cons (pe_callB call_isErr (by rfl) T.isinstance (by decide +kernel) (pa_cons (pv 0) (pa_cons (pe_glob rfl g_BadMark (v := .ref (c 14)) rfl) pa_nil))) (pa_cons (pe_callB call_isErr (by rfl) T.isinstance (by decide +kernel) (pa_cons (pv 0) (pa_cons (pe_glob rfl g_Loose (v := .ref (c 15)) rfl) pa_nil))) pa_nil))))))) (pss_cons (ps_set (i := 1) nd rfl (.inl rfl) (pe_op op_cat (pv 1) (pe_lst (pa_cons (pe_callB call_isErr (by rfl) T.isinstance (by decide +kernel) (pa_cons (pv 0) (pa_cons (pe_glob rfl g_NoNumber (v := .ref (c 16)) rfl) pa_nil))) (pa_cons (pe_callB call_isErr (by rfl) T.isinstance (by decide +kernel) (pa_cons (pv 0) (pa_cons (pe_glob rfl g_Twice (v := .ref (c 17)) rfl) pa_nil))) (pa_cons (pe_callB call_isErr (by rfl) T.isinstance (by decide +kernel) (pa_cons (pv 0) (pa_cons (pe_glob rfl g_TooMany (v := .ref (c 18)) rfl) pa_nil))) (pa_cons (pe_callB call_isErr (by rfl) T.isinstance (by decide +kernel) (pa_cons (pv 0) (pa_cons (pe_glob rfl g_Full (v := .ref (c 19)) rfl) pa_nil))) pa_nil))))))) (pss_cons (ps_set (i := 1) nd rfl (.inl rfl) (pe_op op_cat (pv 1) (pe_lst (pa_cons (pe_callB call_isErr (by rfl) T.isinstance (by decide +kernel) (pa_cons (pv 0) (pa_cons (pe_glob rfl g_NoEntry (v := .ref (c 20)) rfl) pa_nil))) (pa_cons (pe_callB call_isErr (by rfl) T.isinstance (by decide +kernel) (pa_cons (pv 0) (pa_cons (pe_glob rfl g_NoUse (v := .ref (c 21)) rfl) pa_nil))) (pa_cons (pe_callB call_isErr (by rfl) T.isinstance (by decide +kernel) (pa_cons (pv 0) (pa_cons (pe_glob rfl g_Unlike (v := .ref (c 22)) rfl) pa_nil))) (pa_cons (pe_callB call_isErr (by rfl) T.isinstance (by decide +kernel) (pa_cons (pv 0) (pa_cons (pe_glob rfl g_NoMove (v := .ref (c 23)) rfl) pa_nil))) pa_nil))))))) (pss_cons (ps_set (i := 1) nd rfl (.inl rfl) (pe_op op_cat (pv 1) (pe_lst (pa_cons (pe_callB call_isErr (by rfl) T.isinstance (by decide +kernel) (pa_cons (pv 0) (pa_cons (pe_glob rfl g_Unfit (v := .ref (c 24)) rfl) pa_nil))) (pa_cons (pe_callB call_isErr (by rfl) T.isinstance (by decide +kernel) (pa_cons (pv 0) (pa_cons (pe_glob rfl g_Nothing (v := .ref (c 25)) rfl) pa_nil))) (pa_cons (pe_callB call_isErr (by rfl) T.isinstance (by decide +kernel) (pa_cons (pv 0) (pa_cons (pe_glob rfl g_NoText (v := .ref (c 26)) rfl) pa_nil))) (pa_cons (pe_callB call_isErr (by rfl) T.isinstance (by decide +kernel) (pa_cons (pv 0) (pa_cons (pe_glob rfl g_NoCommand (v := .ref (c 27)) rfl) pa_nil))) pa_nil))))))) (pss_one (ps_ret (pv 1)))))))))), ?_⟩
    refine ⟨_, rfl, a, C, .ref (c 0), _, r 0, rfl, he, cc, .own _, row 0 (by decide), _, rfl, a, C, .ref (c 1), _, r 1, rfl, he, cc, .own _, row 1 (by decide), _, rfl, a, C, .ref (c 2), _, r 2, rfl, he, cc, .own _, row 2 (by decide), _, rfl, a, C, .ref (c 3), _, r 3, rfl, he, cc, .own _, row 3 (by decide), by show 4 ≤ sizeLine; decide, fun p0 n0 => ?_⟩
    have x0 := (Ext.refl H).new (o := (.lst [.bl (r 0), .bl (r 1), .bl (r 2), .bl (r 3)])) n0
    have h0 : (upd H p0 (.lst [.bl (r 0), .bl (r 1), .bl (r 2), .bl (r 3)])) p0 = _ := upd_same
    show tSeq _ _ _ _ (upd H p0 (.lst [.bl (r 0), .bl (r 1), .bl (r 2), .bl (r 3)]))
    generalize (upd H p0 (.lst [.bl (r 0), .bl (r 1), .bl (r 2), .bl (r 3)])) = H1 at x0 h0
    have he1 := he.ext x0
    refine ⟨_, rfl, _, rfl, a, C, .ref (c 4), _, r 4, rfl, he1, cc, .own _, row 4 (by decide), _, rfl, a, C, .ref (c 5), _, r 5, rfl, he1, cc, .own _, row 5 (by decide), _, rfl, a, C, .ref (c 6), _, r 6, rfl, he1, cc, .own _, row 6 (by decide), _, rfl, a, C, .ref (c 7), _, r 7, rfl, he1, cc, .own _, row 7 (by decide), by show 4 ≤ sizeLine; decide, fun q1 m1 => ?_⟩
    have y1 := (Ext.refl H1).new (o := (.lst [.bl (r 4), .bl (r 5), .bl (r 6), .bl (r 7)])) m1
    refine ⟨p0, q1, _, _, rfl, rfl, y1 _ _ h0, upd_same, by show 8 ≤ sizeLine; decide, fun p1 n1 => ?_⟩
    have x1 := x0.trans (y1.new (o := (.lst [.bl (r 0), .bl (r 1), .bl (r 2), .bl (r 3), .bl (r 4), .bl (r 5), .bl (r 6), .bl (r 7)])) n1)
    have h1 : (upd (upd H1 q1 (.lst [.bl (r 4), .bl (r 5), .bl (r 6), .bl (r 7)])) p1 (.lst [.bl (r 0), .bl (r 1), .bl (r 2), .bl (r 3), .bl (r 4), .bl (r 5), .bl (r 6), .bl (r 7)])) p1 = _ := upd_same
    show tSeq _ _ _ _ (upd (upd H1 q1 (.lst [.bl (r 4), .bl (r 5), .bl (r 6), .bl (r 7)])) p1 (.lst [.bl (r 0), .bl (r 1), .bl (r 2), .bl (r 3), .bl (r 4), .bl (r 5), .bl (r 6), .bl (r 7)]))
    generalize (upd (upd H1 q1 (.lst [.bl (r 4), .bl (r 5), .bl (r 6), .bl (r 7)])) p1 (.lst [.bl (r 0), .bl (r 1), .bl (r 2), .bl (r 3), .bl (r 4), .bl (r 5), .bl (r 6), .bl (r 7)])) = H2 at x1 h1
    have he2 := he.ext x1
    refine ⟨_, rfl, _, rfl, a, C, .ref (c 8), _, r 8, rfl, he2, cc, .own _, row 8 (by decide), _, rfl, a, C, .ref (c 9), _, r 9, rfl, he2, cc, .own _, row 9 (by decide), _, rfl, a, C, .ref (c 10), _, r 10, rfl, he2, cc, .own _, row 10 (by decide), _, rfl, a, C, .ref (c 11), _, r 11, rfl, he2, cc, .own _, row 11 (by decide), by show 4 ≤ sizeLine; decide, fun q2 m2 => ?_⟩
    have y2 := (Ext.refl H2).new (o := (.lst [.bl (r 8), .bl (r 9), .bl (r 10), .bl (r 11)])) m2
    refine ⟨p1, q2, _, _, rfl, rfl, y2 _ _ h1, upd_same, by show 12 ≤ sizeLine; decide, fun p2 n2 => ?_⟩
    have x2 := x1.trans (y2.new (o := (.lst [.bl (r 0), .bl (r 1), .bl (r 2), .bl (r 3), .bl (r 4), .bl (r 5), .bl (r 6), .bl (r 7), .bl (r 8), .bl (r 9), .bl (r 10), .bl (r 11)])) n2)
    have h2 : (upd (upd H2 q2 (.lst [.bl (r 8), .bl (r 9), .bl (r 10), .bl (r 11)])) p2 (.lst [.bl (r 0), .bl (r 1), .bl (r 2), .bl (r 3), .bl (r 4), .bl (r 5), .bl (r 6), .bl (r 7), .bl (r 8), .bl (r 9), .bl (r 10), .bl (r 11)])) p2 = _ := upd_same
    show tSeq _ _ _ _ (upd (upd H2 q2 (.lst [.bl (r 8), .bl (r 9), .bl (r 10), .bl (r 11)])) p2 (.lst [.bl (r 0), .bl (r 1), .bl (r 2), .bl (r 3), .bl (r 4), .bl (r 5), .bl (r 6), .bl (r 7), .bl (r 8), .bl (r 9), .bl (r 10), .bl (r 11)]))
    generalize (upd (upd H2 q2 (.lst [.bl (r 8), .bl (r 9), .bl (r 10), .bl (r 11)])) p2 (.lst [.bl (r 0), .bl (r 1), .bl (r 2), .bl (r 3), .bl (r 4), .bl (r 5), .bl (r 6), .bl (r 7), .bl (r 8), .bl (r 9), .bl (r 10), .bl (r 11)])) = H3 at x2 h2
    have he3 := he.ext x2
    refine ⟨_, rfl, _, rfl, a, C, .ref (c 12), _, r 12, rfl, he3, cc, .own _, row 12 (by decide), _, rfl, a, C, .ref (c 13), _, r 13, rfl, he3, cc, .own _, row 13 (by decide), _, rfl, a, C, .ref (c 14), _, r 14, rfl, he3, cc, .own _, row 14 (by decide), _, rfl, a, C, .ref (c 15), _, r 15, rfl, he3, cc, .own _, row 15 (by decide), by show 4 ≤ sizeLine; decide, fun q3 m3 => ?_⟩
    have y3 := (Ext.refl H3).new (o := (.lst [.bl (r 12), .bl (r 13), .bl (r 14), .bl (r 15)])) m3
    refine ⟨p2, q3, _, _, rfl, rfl, y3 _ _ h2, upd_same, by show 16 ≤ sizeLine; decide, fun p3 n3 => ?_⟩
    have x3 := x2.trans (y3.new (o := (.lst [.bl (r 0), .bl (r 1), .bl (r 2), .bl (r 3), .bl (r 4), .bl (r 5), .bl (r 6), .bl (r 7), .bl (r 8), .bl (r 9), .bl (r 10), .bl (r 11), .bl (r 12), .bl (r 13), .bl (r 14), .bl (r 15)])) n3)
    have h3 : (upd (upd H3 q3 (.lst [.bl (r 12), .bl (r 13), .bl (r 14), .bl (r 15)])) p3 (.lst [.bl (r 0), .bl (r 1), .bl (r 2), .bl (r 3), .bl (r 4), .bl (r 5), .bl (r 6), .bl (r 7), .bl (r 8), .bl (r 9), .bl (r 10), .bl (r 11), .bl (r 12), .bl (r 13), .bl (r 14), .bl (r 15)])) p3 = _ := upd_same
    show tSeq _ _ _ _ (upd (upd H3 q3 (.lst [.bl (r 12), .bl (r 13), .bl (r 14), .bl (r 15)])) p3 (.lst [.bl (r 0), .bl (r 1), .bl (r 2), .bl (r 3), .bl (r 4), .bl (r 5), .bl (r 6), .bl (r 7), .bl (r 8), .bl (r 9), .bl (r 10), .bl (r 11), .bl (r 12), .bl (r 13), .bl (r 14), .bl (r 15)]))
    generalize (upd (upd H3 q3 (.lst [.bl (r 12), .bl (r 13), .bl (r 14), .bl (r 15)])) p3 (.lst [.bl (r 0), .bl (r 1), .bl (r 2), .bl (r 3), .bl (r 4), .bl (r 5), .bl (r 6), .bl (r 7), .bl (r 8), .bl (r 9), .bl (r 10), .bl (r 11), .bl (r 12), .bl (r 13), .bl (r 14), .bl (r 15)])) = H4 at x3 h3
    have he4 := he.ext x3
    refine ⟨_, rfl, _, rfl, a, C, .ref (c 16), _, r 16, rfl, he4, cc, .own _, row 16 (by decide), _, rfl, a, C, .ref (c 17), _, r 17, rfl, he4, cc, .own _, row 17 (by decide), _, rfl, a, C, .ref (c 18), _, r 18, rfl, he4, cc, .own _, row 18 (by decide), _, rfl, a, C, .ref (c 19), _, r 19, rfl, he4, cc, .own _, row 19 (by decide), by show 4 ≤ sizeLine; decide, fun q4 m4 => ?_⟩
    have y4 := (Ext.refl H4).new (o := (.lst [.bl (r 16), .bl (r 17), .bl (r 18), .bl (r 19)])) m4
    refine ⟨p3, q4, _, _, rfl, rfl, y4 _ _ h3, upd_same, by show 20 ≤ sizeLine; decide, fun p4 n4 => ?_⟩
    have x4 := x3.trans (y4.new (o := (.lst [.bl (r 0), .bl (r 1), .bl (r 2), .bl (r 3), .bl (r 4), .bl (r 5), .bl (r 6), .bl (r 7), .bl (r 8), .bl (r 9), .bl (r 10), .bl (r 11), .bl (r 12), .bl (r 13), .bl (r 14), .bl (r 15), .bl (r 16), .bl (r 17), .bl (r 18), .bl (r 19)])) n4)
    have h4 : (upd (upd H4 q4 (.lst [.bl (r 16), .bl (r 17), .bl (r 18), .bl (r 19)])) p4 (.lst [.bl (r 0), .bl (r 1), .bl (r 2), .bl (r 3), .bl (r 4), .bl (r 5), .bl (r 6), .bl (r 7), .bl (r 8), .bl (r 9), .bl (r 10), .bl (r 11), .bl (r 12), .bl (r 13), .bl (r 14), .bl (r 15), .bl (r 16), .bl (r 17), .bl (r 18), .bl (r 19)])) p4 = _ := upd_same
    show tSeq _ _ _ _ (upd (upd H4 q4 (.lst [.bl (r 16), .bl (r 17), .bl (r 18), .bl (r 19)])) p4 (.lst [.bl (r 0), .bl (r 1), .bl (r 2), .bl (r 3), .bl (r 4), .bl (r 5), .bl (r 6), .bl (r 7), .bl (r 8), .bl (r 9), .bl (r 10), .bl (r 11), .bl (r 12), .bl (r 13), .bl (r 14), .bl (r 15), .bl (r 16), .bl (r 17), .bl (r 18), .bl (r 19)]))
    generalize (upd (upd H4 q4 (.lst [.bl (r 16), .bl (r 17), .bl (r 18), .bl (r 19)])) p4 (.lst [.bl (r 0), .bl (r 1), .bl (r 2), .bl (r 3), .bl (r 4), .bl (r 5), .bl (r 6), .bl (r 7), .bl (r 8), .bl (r 9), .bl (r 10), .bl (r 11), .bl (r 12), .bl (r 13), .bl (r 14), .bl (r 15), .bl (r 16), .bl (r 17), .bl (r 18), .bl (r 19)])) = H5 at x4 h4
    have he5 := he.ext x4
    refine ⟨_, rfl, _, rfl, a, C, .ref (c 20), _, r 20, rfl, he5, cc, .own _, row 20 (by decide), _, rfl, a, C, .ref (c 21), _, r 21, rfl, he5, cc, .own _, row 21 (by decide), _, rfl, a, C, .ref (c 22), _, r 22, rfl, he5, cc, .own _, row 22 (by decide), _, rfl, a, C, .ref (c 23), _, r 23, rfl, he5, cc, .own _, row 23 (by decide), by show 4 ≤ sizeLine; decide, fun q5 m5 => ?_⟩
    have y5 := (Ext.refl H5).new (o := (.lst [.bl (r 20), .bl (r 21), .bl (r 22), .bl (r 23)])) m5
    refine ⟨p4, q5, _, _, rfl, rfl, y5 _ _ h4, upd_same, by show 24 ≤ sizeLine; decide, fun p5 n5 => ?_⟩
    have x5 := x4.trans (y5.new (o := (.lst [.bl (r 0), .bl (r 1), .bl (r 2), .bl (r 3), .bl (r 4), .bl (r 5), .bl (r 6), .bl (r 7), .bl (r 8), .bl (r 9), .bl (r 10), .bl (r 11), .bl (r 12), .bl (r 13), .bl (r 14), .bl (r 15), .bl (r 16), .bl (r 17), .bl (r 18), .bl (r 19), .bl (r 20), .bl (r 21), .bl (r 22), .bl (r 23)])) n5)
    have h5 : (upd (upd H5 q5 (.lst [.bl (r 20), .bl (r 21), .bl (r 22), .bl (r 23)])) p5 (.lst [.bl (r 0), .bl (r 1), .bl (r 2), .bl (r 3), .bl (r 4), .bl (r 5), .bl (r 6), .bl (r 7), .bl (r 8), .bl (r 9), .bl (r 10), .bl (r 11), .bl (r 12), .bl (r 13), .bl (r 14), .bl (r 15), .bl (r 16), .bl (r 17), .bl (r 18), .bl (r 19), .bl (r 20), .bl (r 21), .bl (r 22), .bl (r 23)])) p5 = _ := upd_same
    show tSeq _ _ _ _ (upd (upd H5 q5 (.lst [.bl (r 20), .bl (r 21), .bl (r 22), .bl (r 23)])) p5 (.lst [.bl (r 0), .bl (r 1), .bl (r 2), .bl (r 3), .bl (r 4), .bl (r 5), .bl (r 6), .bl (r 7), .bl (r 8), .bl (r 9), .bl (r 10), .bl (r 11), .bl (r 12), .bl (r 13), .bl (r 14), .bl (r 15), .bl (r 16), .bl (r 17), .bl (r 18), .bl (r 19), .bl (r 20), .bl (r 21), .bl (r 22), .bl (r 23)]))
    generalize (upd (upd H5 q5 (.lst [.bl (r 20), .bl (r 21), .bl (r 22), .bl (r 23)])) p5 (.lst [.bl (r 0), .bl (r 1), .bl (r 2), .bl (r 3), .bl (r 4), .bl (r 5), .bl (r 6), .bl (r 7), .bl (r 8), .bl (r 9), .bl (r 10), .bl (r 11), .bl (r 12), .bl (r 13), .bl (r 14), .bl (r 15), .bl (r 16), .bl (r 17), .bl (r 18), .bl (r 19), .bl (r 20), .bl (r 21), .bl (r 22), .bl (r 23)])) = H6 at x5 h5
    have he6 := he.ext x5
    refine ⟨_, rfl, _, rfl, a, C, .ref (c 24), _, r 24, rfl, he6, cc, .own _, row 24 (by decide), _, rfl, a, C, .ref (c 25), _, r 25, rfl, he6, cc, .own _, row 25 (by decide), _, rfl, a, C, .ref (c 26), _, r 26, rfl, he6, cc, .own _, row 26 (by decide), _, rfl, a, C, .ref (c 27), _, r 27, rfl, he6, cc, .own _, row 27 (by decide), by show 4 ≤ sizeLine; decide, fun q6 m6 => ?_⟩
    have y6 := (Ext.refl H6).new (o := (.lst [.bl (r 24), .bl (r 25), .bl (r 26), .bl (r 27)])) m6
    refine ⟨p5, q6, _, _, rfl, rfl, y6 _ _ h5, upd_same, by show 28 ≤ sizeLine; decide, fun p6 n6 => ?_⟩
    have x6 := x5.trans (y6.new (o := (.lst [.bl (r 0), .bl (r 1), .bl (r 2), .bl (r 3), .bl (r 4), .bl (r 5), .bl (r 6), .bl (r 7), .bl (r 8), .bl (r 9), .bl (r 10), .bl (r 11), .bl (r 12), .bl (r 13), .bl (r 14), .bl (r 15), .bl (r 16), .bl (r 17), .bl (r 18), .bl (r 19), .bl (r 20), .bl (r 21), .bl (r 22), .bl (r 23), .bl (r 24), .bl (r 25), .bl (r 26), .bl (r 27)])) n6)
    have h6 : (upd (upd H6 q6 (.lst [.bl (r 24), .bl (r 25), .bl (r 26), .bl (r 27)])) p6 (.lst [.bl (r 0), .bl (r 1), .bl (r 2), .bl (r 3), .bl (r 4), .bl (r 5), .bl (r 6), .bl (r 7), .bl (r 8), .bl (r 9), .bl (r 10), .bl (r 11), .bl (r 12), .bl (r 13), .bl (r 14), .bl (r 15), .bl (r 16), .bl (r 17), .bl (r 18), .bl (r 19), .bl (r 20), .bl (r 21), .bl (r 22), .bl (r 23), .bl (r 24), .bl (r 25), .bl (r 26), .bl (r 27)])) p6 = _ := upd_same
    refine ⟨_, rfl, ?_⟩
    exact k p6 _ (x5.back (y6.back n6)) x6 h6
end
end AL
namespace AL
open PySem PySem.Spec PyProof.Rows L2
abbrev s_errors : Stmt := top 35
abbrev s_fields : Stmt := top 37
/-- the fields of the error with this number, the last one first -/
def flds (one two three : V) : Nat → List (Str × V)
  | 0 => [("word", three), ("index", two), ("stream", one)]
  | 1 => [("column", two), ("table", one)]
  | 2 => [("at", two), ("table", one)]
  | 3 => [("loop", two), ("place", one)]
  | 4 => [("index", two), ("stream", one)]
  | 5 => [("place", one)]
  | 6 => [("table", one)]
  | 7 => [("at", one)]
  | 8 => [("at", one)]
  | 9 => [("name", one)]
  | 10 => [("name", one)]
  | 11 => [("name", one)]
  | 12 => [("at", one)]
  | 13 => [("at", one)]
  | 14 => [("name", one)]
  | 15 => [("at", one)]
  | 16 => [("number", one)]
  | 17 => [("table", one)]
  | 18 => [("limit", one)]
  | 19 => [("limit", one)]
  | 20 => [("many", one)]
  | _ => []
/-- the errors, in order -/
structure Errs (H : Hp) (c : Nat → Addr) (one two three : V) (a : Nat → Addr) : Prop where
  e0 : ErrAt H (a 0) (c 0) (flds one two three 0)
  e1 : ErrAt H (a 1) (c 1) (flds one two three 1)
  e2 : ErrAt H (a 2) (c 2) (flds one two three 2)
  e3 : ErrAt H (a 3) (c 3) (flds one two three 3)
  e4 : ErrAt H (a 4) (c 4) (flds one two three 4)
  e5 : ErrAt H (a 5) (c 5) (flds one two three 5)
  e6 : ErrAt H (a 6) (c 6) (flds one two three 6)
  e7 : ErrAt H (a 7) (c 7) (flds one two three 7)
  e8 : ErrAt H (a 8) (c 8) (flds one two three 8)
  e9 : ErrAt H (a 9) (c 9) (flds one two three 9)
  e10 : ErrAt H (a 10) (c 10) (flds one two three 10)
  e11 : ErrAt H (a 11) (c 11) (flds one two three 11)
  e12 : ErrAt H (a 12) (c 12) (flds one two three 12)
  e13 : ErrAt H (a 13) (c 13) (flds one two three 13)
  e14 : ErrAt H (a 14) (c 14) (flds one two three 14)
  e15 : ErrAt H (a 15) (c 15) (flds one two three 15)
  e16 : ErrAt H (a 16) (c 16) (flds one two three 16)
  e17 : ErrAt H (a 17) (c 17) (flds one two three 17)
  e18 : ErrAt H (a 18) (c 18) (flds one two three 18)
  e19 : ErrAt H (a 19) (c 19) (flds one two three 19)
  e20 : ErrAt H (a 20) (c 20) (flds one two three 20)
  e21 : ErrAt H (a 21) (c 21) (flds one two three 21)
  e22 : ErrAt H (a 22) (c 22) (flds one two three 22)
  e23 : ErrAt H (a 23) (c 23) (flds one two three 23)
  e24 : ErrAt H (a 24) (c 24) (flds one two three 24)
  e25 : ErrAt H (a 25) (c 25) (flds one two three 25)
  e26 : ErrAt H (a 26) (c 26) (flds one two three 26)
  e27 : ErrAt H (a 27) (c 27) (flds one two three 27)
theorem Errs.ext {H H' : Hp} {c a : Nat → Addr} {one two three : V} (e : Ext H H') (h : Errs H c one two three a) : Errs H' c one two three a := ⟨h.e0.ext e, h.e1.ext e, h.e2.ext e, h.e3.ext e, h.e4.ext e, h.e5.ext e, h.e6.ext e, h.e7.ext e, h.e8.ext e, h.e9.ext e, h.e10.ext e, h.e11.ext e, h.e12.ext e, h.e13.ext e, h.e14.ext e, h.e15.ext e, h.e16.ext e, h.e17.ext e, h.e18.ext e, h.e19.ext e, h.e20.ext e, h.e21.ext e, h.e22.ext e, h.e23.ext e, h.e24.ext e, h.e25.ext e, h.e26.ext e, h.e27.ext e⟩
def el (a : Nat → Addr) : List V := [.ref (a 0), .ref (a 1), .ref (a 2), .ref (a 3), .ref (a 4), .ref (a 5), .ref (a 6), .ref (a 7), .ref (a 8), .ref (a 9), .ref (a 10), .ref (a 11), .ref (a 12), .ref (a 13), .ref (a 14), .ref (a 15), .ref (a 16), .ref (a 17), .ref (a 18), .ref (a 19), .ref (a 20), .ref (a 21), .ref (a 22), .ref (a 23), .ref (a 24), .ref (a 25), .ref (a 26), .ref (a 27)]
def spErrors (c : Nat → Addr) : Sp := fun vs H Q _ => ∃ one two three, vs = [one, two, three] ∧ ∀ p (a : Nat → Addr) H', H p = none → Ext H H' → H' p = some (.lst (el a)) → Errs H' c one two three a → Q (.ref p) H'
section
variable {P : Program} {w : World} {K : PySem.W.Frag} {mg : Str → Option Value} {base : Heap} {c : Nat → Addr}
theorem ok_errors {f : Addr} {fd : FuncData} (F : Fun K "_law_errors" "_law_errors" s_errors f fd) {i_Parted : Addr} {fd_Parted : FuncData} (M_Parted : ErrM P w K mg base "Parted" (c 0) i_Parted fd_Parted ["stream", "index", "word"]) {i_Ringed : Addr} {fd_Ringed : FuncData} (M_Ringed : ErrM P w K mg base "Ringed" (c 1) i_Ringed fd_Ringed ["table", "column"]) {i_BadRow : Addr} {fd_BadRow : FuncData} (M_BadRow : ErrM P w K mg base "BadRow" (c 2) i_BadRow fd_BadRow ["table", "at"]) {i_Hidden : Addr} {fd_Hidden : FuncData} (M_Hidden : ErrM P w K mg base "Hidden" (c 3) i_Hidden fd_Hidden ["place", "loop"]) {i_NoSite : Addr} {fd_NoSite : FuncData} (M_NoSite : ErrM P w K mg base "NoSite" (c 4) i_NoSite fd_NoSite ["stream", "index"]) {i_Wrong : Addr} {fd_Wrong : FuncData} (M_Wrong : ErrM P w K mg base "Wrong" (c 5) i_Wrong fd_Wrong ["place"]) {i_BadKey : Addr} {fd_BadKey : FuncData} (M_BadKey : ErrM P w K mg base "BadKey" (c 6) i_BadKey fd_BadKey ["table"]) {i_BadReference : Addr} {fd_BadReference : FuncData} (M_BadReference : ErrM P w K mg base "BadReference" (c 7) i_BadReference fd_BadReference ["at"]) {i_BadMade : Addr} {fd_BadMade : FuncData} (M_BadMade : ErrM P w K mg base "BadMade" (c 8) i_BadMade fd_BadMade ["at"]) {i_Unknown : Addr} {fd_Unknown : FuncData} (M_Unknown : ErrM P w K mg base "Unknown" (c 9) i_Unknown fd_Unknown ["name"]) {i_NotFixed : Addr} {fd_NotFixed : FuncData} (M_NotFixed : ErrM P w K mg base "NotFixed" (c 10) i_NotFixed fd_NotFixed ["name"]) {i_Missing : Addr} {fd_Missing : FuncData} (M_Missing : ErrM P w K mg base "Missing" (c 11) i_Missing fd_Missing ["name"]) {i_BadItem : Addr} {fd_BadItem : FuncData} (M_BadItem : ErrM P w K mg base "BadItem" (c 12) i_BadItem fd_BadItem ["at"]) {i_BadShown : Addr} {fd_BadShown : FuncData} (M_BadShown : ErrM P w K mg base "BadShown" (c 13) i_BadShown fd_BadShown ["at"]) {i_BadMark : Addr} {fd_BadMark : FuncData} (M_BadMark : ErrM P w K mg base "BadMark" (c 14) i_BadMark fd_BadMark ["name"]) {i_Loose : Addr} {fd_Loose : FuncData} (M_Loose : ErrM P w K mg base "Loose" (c 15) i_Loose fd_Loose ["at"]) {i_NoNumber : Addr} {fd_NoNumber : FuncData} (M_NoNumber : ErrM P w K mg base "NoNumber" (c 16) i_NoNumber fd_NoNumber ["number"]) {i_Twice : Addr} {fd_Twice : FuncData} (M_Twice : ErrM P w K mg base "Twice" (c 17) i_Twice fd_Twice ["table"]) {i_TooMany : Addr} {fd_TooMany : FuncData} (M_TooMany : ErrM P w K mg base "TooMany" (c 18) i_TooMany fd_TooMany ["limit"]) {i_Full : Addr} {fd_Full : FuncData} (M_Full : ErrM P w K mg base "Full" (c 19) i_Full fd_Full ["limit"]) {i_NoEntry : Addr} {fd_NoEntry : FuncData} (M_NoEntry : ErrM P w K mg base "NoEntry" (c 20) i_NoEntry fd_NoEntry ["many"]) {i_NoUse : Addr} {fd_NoUse : FuncData} (M_NoUse : ErrM P w K mg base "NoUse" (c 21) i_NoUse fd_NoUse []) {i_Unlike : Addr} {fd_Unlike : FuncData} (M_Unlike : ErrM P w K mg base "Unlike" (c 22) i_Unlike fd_Unlike []) {i_NoMove : Addr} {fd_NoMove : FuncData} (M_NoMove : ErrM P w K mg base "NoMove" (c 23) i_NoMove fd_NoMove []) {i_Unfit : Addr} {fd_Unfit : FuncData} (M_Unfit : ErrM P w K mg base "Unfit" (c 24) i_Unfit fd_Unfit []) {i_Nothing : Addr} {fd_Nothing : FuncData} (M_Nothing : ErrM P w K mg base "Nothing" (c 25) i_Nothing fd_Nothing []) {i_NoText : Addr} {fd_NoText : FuncData} (M_NoText : ErrM P w K mg base "NoText" (c 26) i_NoText fd_NoText []) {i_NoCommand : Addr} {fd_NoCommand : FuncData} (M_NoCommand : ErrM P w K mg base "NoCommand" (c 27) i_NoCommand fd_NoCommand []) : FnOk P w K mg base CX0 3 f fd ["_law_one", "_law_two", "_law_three"] (spErrors c) := by
  refine F.ok (N := ["_law_one", "_law_two", "_law_three", "_law_found"]) ⟨rfl, rfl, rfl, by decide +kernel, rfl, by decide +kernel, by decide +kernel⟩ (fun vs H Q E h => ?_) (fun cdv A outer s H vs Q E hr h => ?_)
  · obtain ⟨one, two, three, rfl, _⟩ := h
    rfl
  · obtain ⟨one, two, three, rfl, k⟩ := h
    have nd : (["_law_one", "_law_two", "_law_three", "_law_found"] : List Str).Nodup := by decide +kernel
    refine ⟨_, (pss_cons (ps_set (i := 3) nd rfl (.inl rfl) (pe_lst (pa_cons (pe_err M_Parted (hr.mono (by decide)) (by rfl) (pa_cons (pv 0) (pa_cons (pv 1) (pa_cons (pv 2) pa_nil)))) (pa_cons (pe_err M_Ringed (hr.mono (by decide)) (by rfl) (pa_cons (pv 0) (pa_cons (pv 1) pa_nil))) (pa_cons (pe_err M_BadRow (hr.mono (by decide)) (by rfl) (pa_cons (pv 0) (pa_cons (pv 1) pa_nil))) (pa_cons (pe_err M_Hidden (hr.mono (by decide)) (by rfl) (pa_cons (pv 0) (pa_cons (pv 1) pa_nil))) (pa_cons (pe_err M_NoSite (hr.mono (by decide)) (by rfl) (pa_cons (pv 0) (pa_cons (pv 1) pa_nil))) pa_nil))))))) (pss_cons (ps_set (i := 3) nd rfl (.inl rfl) (pe_op op_cat (pv 3) (pe_lst (pa_cons (pe_err M_Wrong (hr.mono (by decide)) (by rfl) (pa_cons (pv 0) pa_nil)) (pa_cons (pe_err M_BadKey (hr.mono (by decide)) (by rfl) (pa_cons (pv 0) pa_nil)) (pa_cons (pe_err M_BadReference (hr.mono (by decide)) (by rfl) (pa_cons (pv 0) pa_nil)) (pa_cons (pe_err M_BadMade (hr.mono (by decide)) (by rfl) (pa_cons (pv 0) pa_nil)) (pa_cons (pe_err M_Unknown (hr.mono (by decide)) (by rfl) (pa_cons (pv 0) pa_nil)) (pa_cons (pe_err M_NotFixed (hr.mono (by decide)) (by rfl) (pa_cons (pv 0) pa_nil)) pa_nil))))))))) (pss_cons (ps_set (i := 3) nd rfl (.inl rfl) (pe_op op_cat (pv 3) (pe_lst (pa_cons (pe_err M_Missing (hr.mono (by decide)) (by rfl) (pa_cons (pv 0) pa_nil)) (pa_cons (pe_err M_BadItem (hr.mono (by decide)) (by rfl) (pa_cons (pv 0) pa_nil)) (pa_cons (pe_err M_BadShown (hr.mono (by decide)) (by rfl) (pa_cons (pv 0) pa_nil)) (pa_cons (pe_err M_BadMark (hr.mono (by decide)) (by rfl) (pa_cons (pv 0) pa_nil)) (pa_cons (pe_err M_Loose (hr.mono (by decide)) (by rfl) (pa_cons (pv 0) pa_nil)) (pa_cons (pe_err M_NoNumber (hr.mono (by decide)) (by rfl) (pa_cons (pv 0) pa_nil)) (pa_cons (pe_err M_Twice (hr.mono (by decide)) (by rfl) (pa_cons (pv 0) pa_nil)) pa_nil)))))))))) (pss_cons (ps_set (i := 3) nd rfl (.inl rfl) (pe_op op_cat (pv 3) (pe_lst (pa_cons (pe_err M_TooMany (hr.mono (by decide)) (by rfl) (pa_cons (pv 0) pa_nil)) (pa_cons (pe_err M_Full (hr.mono (by decide)) (by rfl) (pa_cons (pv 0) pa_nil)) (pa_cons (pe_err M_NoEntry (hr.mono (by decide)) (by rfl) (pa_cons (pv 0) pa_nil)) (pa_cons (pe_err0 M_NoUse (hr.mono (by decide)) (by rfl)) (pa_cons (pe_err0 M_Unlike (hr.mono (by decide)) (by rfl)) (pa_cons (pe_err0 M_NoMove (hr.mono (by decide)) (by rfl)) (pa_cons (pe_err0 M_Unfit (hr.mono (by decide)) (by rfl)) (pa_cons (pe_err0 M_Nothing (hr.mono (by decide)) (by rfl)) (pa_cons (pe_err0 M_NoText (hr.mono (by decide)) (by rfl)) pa_nil)))))))))))) (pss_one (ps_ret (pe_op op_cat (pv 3) (pe_lst (pa_cons (pe_err0 M_NoCommand (hr.mono (by decide)) (by rfl)) pa_nil))))))))), ?_⟩
    refine ⟨_, rfl, _, rfl, _, rfl, rfl, by show 3 ≤ 1000; decide, fun a0 H0 n0 x0 e0 => ?_⟩
    refine ⟨_, rfl, _, rfl, rfl, by show 2 ≤ 1000; decide, fun a1 H1 n1 x1 e1 => ?_⟩
    refine ⟨_, rfl, _, rfl, rfl, by show 2 ≤ 1000; decide, fun a2 H2 n2 x2 e2 => ?_⟩
    refine ⟨_, rfl, _, rfl, rfl, by show 2 ≤ 1000; decide, fun a3 H3 n3 x3 e3 => ?_⟩
    refine ⟨_, rfl, _, rfl, rfl, by show 2 ≤ 1000; decide, fun a4 H4 n4 x4 e4 => ?_⟩
    refine ⟨by show 5 ≤ sizeLine; decide, fun l0 m0 => ?_⟩
    have u0 := (Ext.refl H4).new (o := .lst [.ref a0, .ref a1, .ref a2, .ref a3, .ref a4]) m0
    have w0 : (upd H4 l0 (.lst [.ref a0, .ref a1, .ref a2, .ref a3, .ref a4])) l0 = _ := upd_same
    generalize hG0 : upd H4 l0 (.lst [.ref a0, .ref a1, .ref a2, .ref a3, .ref a4]) = G0 at u0 w0
    have v0 := w0
    have t0 := Ext.refl G0
    obtain ⟨r0, hr0⟩ : ∃ r0, r0 = l0 := ⟨_, rfl⟩
    subst hr0
    refine ⟨_, rfl, ?_⟩
    refine ⟨_, rfl, rfl, by show 1 ≤ 1000; decide, fun a5 H5 n5 x5 e5 => ?_⟩
    refine ⟨_, rfl, rfl, by show 1 ≤ 1000; decide, fun a6 H6 n6 x6 e6 => ?_⟩
    refine ⟨_, rfl, rfl, by show 1 ≤ 1000; decide, fun a7 H7 n7 x7 e7 => ?_⟩
    refine ⟨_, rfl, rfl, by show 1 ≤ 1000; decide, fun a8 H8 n8 x8 e8 => ?_⟩
    refine ⟨_, rfl, rfl, by show 1 ≤ 1000; decide, fun a9 H9 n9 x9 e9 => ?_⟩
    refine ⟨_, rfl, rfl, by show 1 ≤ 1000; decide, fun a10 H10 n10 x10 e10 => ?_⟩
    refine ⟨by show 6 ≤ sizeLine; decide, fun l1 m1 => ?_⟩
    have u1 := (Ext.refl H10).new (o := .lst [.ref a5, .ref a6, .ref a7, .ref a8, .ref a9, .ref a10]) m1
    have w1 : (upd H10 l1 (.lst [.ref a5, .ref a6, .ref a7, .ref a8, .ref a9, .ref a10])) l1 = _ := upd_same
    generalize hG1 : upd H10 l1 (.lst [.ref a5, .ref a6, .ref a7, .ref a8, .ref a9, .ref a10]) = G1 at u1 w1
    have z1 := ((((((x5.trans x6).trans x7).trans x8).trans x9).trans x10).trans u1)
    refine ⟨r0, l1, _, _, rfl, rfl, z1 _ _ v0, w1, by show 11 ≤ sizeLine; decide, fun r1 s1 => ?_⟩
    have t1 := (Ext.refl G1).new (o := .lst [.ref a0, .ref a1, .ref a2, .ref a3, .ref a4, .ref a5, .ref a6, .ref a7, .ref a8, .ref a9, .ref a10]) s1
    have v1 : (upd G1 r1 (.lst [.ref a0, .ref a1, .ref a2, .ref a3, .ref a4, .ref a5, .ref a6, .ref a7, .ref a8, .ref a9, .ref a10])) r1 = some (.lst [.ref a0, .ref a1, .ref a2, .ref a3, .ref a4, .ref a5, .ref a6, .ref a7, .ref a8, .ref a9, .ref a10]) := upd_same
    try show tSeq _ _ _ _ (upd G1 r1 (.lst [.ref a0, .ref a1, .ref a2, .ref a3, .ref a4, .ref a5, .ref a6, .ref a7, .ref a8, .ref a9, .ref a10]))
    generalize hR1 : upd G1 r1 (.lst [.ref a0, .ref a1, .ref a2, .ref a3, .ref a4, .ref a5, .ref a6, .ref a7, .ref a8, .ref a9, .ref a10]) = R1 at t1 v1
    refine ⟨_, rfl, ?_⟩
    refine ⟨_, rfl, rfl, by show 1 ≤ 1000; decide, fun a11 H11 n11 x11 e11 => ?_⟩
    refine ⟨_, rfl, rfl, by show 1 ≤ 1000; decide, fun a12 H12 n12 x12 e12 => ?_⟩
    refine ⟨_, rfl, rfl, by show 1 ≤ 1000; decide, fun a13 H13 n13 x13 e13 => ?_⟩
    refine ⟨_, rfl, rfl, by show 1 ≤ 1000; decide, fun a14 H14 n14 x14 e14 => ?_⟩
    refine ⟨_, rfl, rfl, by show 1 ≤ 1000; decide, fun a15 H15 n15 x15 e15 => ?_⟩
    refine ⟨_, rfl, rfl, by show 1 ≤ 1000; decide, fun a16 H16 n16 x16 e16 => ?_⟩
    refine ⟨_, rfl, rfl, by show 1 ≤ 1000; decide, fun a17 H17 n17 x17 e17 => ?_⟩
    refine ⟨by show 7 ≤ sizeLine; decide, fun l2 m2 => ?_⟩
    have u2 := (Ext.refl H17).new (o := .lst [.ref a11, .ref a12, .ref a13, .ref a14, .ref a15, .ref a16, .ref a17]) m2
    have w2 : (upd H17 l2 (.lst [.ref a11, .ref a12, .ref a13, .ref a14, .ref a15, .ref a16, .ref a17])) l2 = _ := upd_same
    generalize hG2 : upd H17 l2 (.lst [.ref a11, .ref a12, .ref a13, .ref a14, .ref a15, .ref a16, .ref a17]) = G2 at u2 w2
    have z2 := (((((((x11.trans x12).trans x13).trans x14).trans x15).trans x16).trans x17).trans u2)
    refine ⟨r1, l2, _, _, rfl, rfl, z2 _ _ v1, w2, by show 18 ≤ sizeLine; decide, fun r2 s2 => ?_⟩
    have t2 := (Ext.refl G2).new (o := .lst [.ref a0, .ref a1, .ref a2, .ref a3, .ref a4, .ref a5, .ref a6, .ref a7, .ref a8, .ref a9, .ref a10, .ref a11, .ref a12, .ref a13, .ref a14, .ref a15, .ref a16, .ref a17]) s2
    have v2 : (upd G2 r2 (.lst [.ref a0, .ref a1, .ref a2, .ref a3, .ref a4, .ref a5, .ref a6, .ref a7, .ref a8, .ref a9, .ref a10, .ref a11, .ref a12, .ref a13, .ref a14, .ref a15, .ref a16, .ref a17])) r2 = some (.lst [.ref a0, .ref a1, .ref a2, .ref a3, .ref a4, .ref a5, .ref a6, .ref a7, .ref a8, .ref a9, .ref a10, .ref a11, .ref a12, .ref a13, .ref a14, .ref a15, .ref a16, .ref a17]) := upd_same
    try show tSeq _ _ _ _ (upd G2 r2 (.lst [.ref a0, .ref a1, .ref a2, .ref a3, .ref a4, .ref a5, .ref a6, .ref a7, .ref a8, .ref a9, .ref a10, .ref a11, .ref a12, .ref a13, .ref a14, .ref a15, .ref a16, .ref a17]))
    generalize hR2 : upd G2 r2 (.lst [.ref a0, .ref a1, .ref a2, .ref a3, .ref a4, .ref a5, .ref a6, .ref a7, .ref a8, .ref a9, .ref a10, .ref a11, .ref a12, .ref a13, .ref a14, .ref a15, .ref a16, .ref a17]) = R2 at t2 v2
    refine ⟨_, rfl, ?_⟩
    refine ⟨_, rfl, rfl, by show 1 ≤ 1000; decide, fun a18 H18 n18 x18 e18 => ?_⟩
    refine ⟨_, rfl, rfl, by show 1 ≤ 1000; decide, fun a19 H19 n19 x19 e19 => ?_⟩
    refine ⟨_, rfl, rfl, by show 1 ≤ 1000; decide, fun a20 H20 n20 x20 e20 => ?_⟩
    refine ⟨rfl, by show 0 ≤ 1000; decide, fun a21 H21 n21 x21 e21 => ?_⟩
    refine ⟨rfl, by show 0 ≤ 1000; decide, fun a22 H22 n22 x22 e22 => ?_⟩
    refine ⟨rfl, by show 0 ≤ 1000; decide, fun a23 H23 n23 x23 e23 => ?_⟩
    refine ⟨rfl, by show 0 ≤ 1000; decide, fun a24 H24 n24 x24 e24 => ?_⟩
    refine ⟨rfl, by show 0 ≤ 1000; decide, fun a25 H25 n25 x25 e25 => ?_⟩
    refine ⟨rfl, by show 0 ≤ 1000; decide, fun a26 H26 n26 x26 e26 => ?_⟩
    refine ⟨by show 9 ≤ sizeLine; decide, fun l3 m3 => ?_⟩
    have u3 := (Ext.refl H26).new (o := .lst [.ref a18, .ref a19, .ref a20, .ref a21, .ref a22, .ref a23, .ref a24, .ref a25, .ref a26]) m3
    have w3 : (upd H26 l3 (.lst [.ref a18, .ref a19, .ref a20, .ref a21, .ref a22, .ref a23, .ref a24, .ref a25, .ref a26])) l3 = _ := upd_same
    generalize hG3 : upd H26 l3 (.lst [.ref a18, .ref a19, .ref a20, .ref a21, .ref a22, .ref a23, .ref a24, .ref a25, .ref a26]) = G3 at u3 w3
    have z3 := (((((((((x18.trans x19).trans x20).trans x21).trans x22).trans x23).trans x24).trans x25).trans x26).trans u3)
    refine ⟨r2, l3, _, _, rfl, rfl, z3 _ _ v2, w3, by show 27 ≤ sizeLine; decide, fun r3 s3 => ?_⟩
    have t3 := (Ext.refl G3).new (o := .lst [.ref a0, .ref a1, .ref a2, .ref a3, .ref a4, .ref a5, .ref a6, .ref a7, .ref a8, .ref a9, .ref a10, .ref a11, .ref a12, .ref a13, .ref a14, .ref a15, .ref a16, .ref a17, .ref a18, .ref a19, .ref a20, .ref a21, .ref a22, .ref a23, .ref a24, .ref a25, .ref a26]) s3
    have v3 : (upd G3 r3 (.lst [.ref a0, .ref a1, .ref a2, .ref a3, .ref a4, .ref a5, .ref a6, .ref a7, .ref a8, .ref a9, .ref a10, .ref a11, .ref a12, .ref a13, .ref a14, .ref a15, .ref a16, .ref a17, .ref a18, .ref a19, .ref a20, .ref a21, .ref a22, .ref a23, .ref a24, .ref a25, .ref a26])) r3 = some (.lst [.ref a0, .ref a1, .ref a2, .ref a3, .ref a4, .ref a5, .ref a6, .ref a7, .ref a8, .ref a9, .ref a10, .ref a11, .ref a12, .ref a13, .ref a14, .ref a15, .ref a16, .ref a17, .ref a18, .ref a19, .ref a20, .ref a21, .ref a22, .ref a23, .ref a24, .ref a25, .ref a26]) := upd_same
    try show tSeq _ _ _ _ (upd G3 r3 (.lst [.ref a0, .ref a1, .ref a2, .ref a3, .ref a4, .ref a5, .ref a6, .ref a7, .ref a8, .ref a9, .ref a10, .ref a11, .ref a12, .ref a13, .ref a14, .ref a15, .ref a16, .ref a17, .ref a18, .ref a19, .ref a20, .ref a21, .ref a22, .ref a23, .ref a24, .ref a25, .ref a26]))
    generalize hR3 : upd G3 r3 (.lst [.ref a0, .ref a1, .ref a2, .ref a3, .ref a4, .ref a5, .ref a6, .ref a7, .ref a8, .ref a9, .ref a10, .ref a11, .ref a12, .ref a13, .ref a14, .ref a15, .ref a16, .ref a17, .ref a18, .ref a19, .ref a20, .ref a21, .ref a22, .ref a23, .ref a24, .ref a25, .ref a26]) = R3 at t3 v3
    refine ⟨_, rfl, ?_⟩
    refine ⟨rfl, by show 0 ≤ 1000; decide, fun a27 H27 n27 x27 e27 => ?_⟩
    refine ⟨by show 1 ≤ sizeLine; decide, fun l4 m4 => ?_⟩
    have u4 := (Ext.refl H27).new (o := .lst [.ref a27]) m4
    have w4 : (upd H27 l4 (.lst [.ref a27])) l4 = _ := upd_same
    generalize hG4 : upd H27 l4 (.lst [.ref a27]) = G4 at u4 w4
    have z4 := (x27.trans u4)
    refine ⟨r3, l4, _, _, rfl, rfl, z4 _ _ v3, w4, by show 28 ≤ sizeLine; decide, fun r4 s4 => ?_⟩
    have t4 := (Ext.refl G4).new (o := .lst [.ref a0, .ref a1, .ref a2, .ref a3, .ref a4, .ref a5, .ref a6, .ref a7, .ref a8, .ref a9, .ref a10, .ref a11, .ref a12, .ref a13, .ref a14, .ref a15, .ref a16, .ref a17, .ref a18, .ref a19, .ref a20, .ref a21, .ref a22, .ref a23, .ref a24, .ref a25, .ref a26, .ref a27]) s4
    have v4 : (upd G4 r4 (.lst [.ref a0, .ref a1, .ref a2, .ref a3, .ref a4, .ref a5, .ref a6, .ref a7, .ref a8, .ref a9, .ref a10, .ref a11, .ref a12, .ref a13, .ref a14, .ref a15, .ref a16, .ref a17, .ref a18, .ref a19, .ref a20, .ref a21, .ref a22, .ref a23, .ref a24, .ref a25, .ref a26, .ref a27])) r4 = some (.lst [.ref a0, .ref a1, .ref a2, .ref a3, .ref a4, .ref a5, .ref a6, .ref a7, .ref a8, .ref a9, .ref a10, .ref a11, .ref a12, .ref a13, .ref a14, .ref a15, .ref a16, .ref a17, .ref a18, .ref a19, .ref a20, .ref a21, .ref a22, .ref a23, .ref a24, .ref a25, .ref a26, .ref a27]) := upd_same
    try show tSeq _ _ _ _ (upd G4 r4 (.lst [.ref a0, .ref a1, .ref a2, .ref a3, .ref a4, .ref a5, .ref a6, .ref a7, .ref a8, .ref a9, .ref a10, .ref a11, .ref a12, .ref a13, .ref a14, .ref a15, .ref a16, .ref a17, .ref a18, .ref a19, .ref a20, .ref a21, .ref a22, .ref a23, .ref a24, .ref a25, .ref a26, .ref a27]))
    have Y37 := Ext.refl (upd G4 r4 (.lst [.ref a0, .ref a1, .ref a2, .ref a3, .ref a4, .ref a5, .ref a6, .ref a7, .ref a8, .ref a9, .ref a10, .ref a11, .ref a12, .ref a13, .ref a14, .ref a15, .ref a16, .ref a17, .ref a18, .ref a19, .ref a20, .ref a21, .ref a22, .ref a23, .ref a24, .ref a25, .ref a26, .ref a27]))
    have Y36 := t4.trans Y37
    have Y35 := u4.trans Y36
    have Y34 := x27.trans Y35
    have Y33 := t3.trans Y34
    have Y32 := u3.trans Y33
    have Y31 := x26.trans Y32
    have Y30 := x25.trans Y31
    have Y29 := x24.trans Y30
    have Y28 := x23.trans Y29
    have Y27 := x22.trans Y28
    have Y26 := x21.trans Y27
    have Y25 := x20.trans Y26
    have Y24 := x19.trans Y25
    have Y23 := x18.trans Y24
    have Y22 := t2.trans Y23
    have Y21 := u2.trans Y22
    have Y20 := x17.trans Y21
    have Y19 := x16.trans Y20
    have Y18 := x15.trans Y19
    have Y17 := x14.trans Y18
    have Y16 := x13.trans Y17
    have Y15 := x12.trans Y16
    have Y14 := x11.trans Y15
    have Y13 := t1.trans Y14
    have Y12 := u1.trans Y13
    have Y11 := x10.trans Y12
    have Y10 := x9.trans Y11
    have Y9 := x8.trans Y10
    have Y8 := x7.trans Y9
    have Y7 := x6.trans Y8
    have Y6 := x5.trans Y7
    have Y5 := u0.trans Y6
    have Y4 := x4.trans Y5
    have Y3 := x3.trans Y4
    have Y2 := x2.trans Y3
    have Y1 := x1.trans Y2
    have Y0 := x0.trans Y1
    have hE : Errs _ c one two three (fun i => [a0, a1, a2, a3, a4, a5, a6, a7, a8, a9, a10, a11, a12, a13, a14, a15, a16, a17, a18, a19, a20, a21, a22, a23, a24, a25, a26, a27].getD i 0) := ⟨e0.ext Y1, e1.ext Y2, e2.ext Y3, e3.ext Y4, e4.ext Y5, e5.ext Y7, e6.ext Y8, e7.ext Y9, e8.ext Y10, e9.ext Y11, e10.ext Y12, e11.ext Y15, e12.ext Y16, e13.ext Y17, e14.ext Y18, e15.ext Y19, e16.ext Y20, e17.ext Y21, e18.ext Y24, e19.ext Y25, e20.ext Y26, e21.ext Y27, e22.ext Y28, e23.ext Y29, e24.ext Y30, e25.ext Y31, e26.ext Y32, e27.ext Y35⟩
    have YY := (((((((((((((((((((((((((((((((((((x0.trans x1).trans x2).trans x3).trans x4).trans u0).trans x5).trans x6).trans x7).trans x8).trans x9).trans x10).trans u1).trans t1).trans x11).trans x12).trans x13).trans x14).trans x15).trans x16).trans x17).trans u2).trans t2).trans x18).trans x19).trans x20).trans x21).trans x22).trans x23).trans x24).trans x25).trans x26).trans u3).trans t3).trans x27).trans u4)
    exact k r4 (fun i => [a0, a1, a2, a3, a4, a5, a6, a7, a8, a9, a10, a11, a12, a13, a14, a15, a16, a17, a18, a19, a20, a21, a22, a23, a24, a25, a26, a27].getD i 0) _ (Ext.back (YY) s4) Y0 v4 hE
end
end AL
namespace AL
open PySem PySem.Spec PyProof.Rows L2
def spFields (c : Nat → Addr) : Sp := fun vs H Q _ => ∃ (p : Addr) (a : Nat → Addr) (one two three : V), vs = [.ref p] ∧ H p = some (.lst (el a)) ∧ Errs H c one two three a ∧
  ∀ q q1 q2 q3 H', H q = none → Ext H H' → H' q = some (.lst [.ref q1, .ref q2, .ref q3]) → H' q1 = some (.lst (List.replicate 21 one)) → H' q2 = some (.lst (List.replicate 5 two)) → H' q3 = some (.lst [three]) → Q (.ref q) H'
/-- what reading a field asks of a class -/
def Fld (K : PySem.W.Frag) (c : Nat → Addr) (j : Nat) (f : Str) : Prop := PySem.W.findIn K (.ref (c j)) f = some none
section
variable {P : Program} {w : World} {K : PySem.W.Frag} {mg : Str → Option Value} {base : Heap} {c : Nat → Addr}
theorem ok_fields {f : Addr} {fd : FuncData} (F : Fun K "_law_fields" "_law_fields" s_fields f fd) (cc : ∀ j, j < 28 → ExcC K (c j)) (f_0_index : Fld K c 0 "index") (f_0_stream : Fld K c 0 "stream") (f_0_word : Fld K c 0 "word") (f_1_column : Fld K c 1 "column") (f_1_table : Fld K c 1 "table") (f_2_at : Fld K c 2 "at") (f_2_table : Fld K c 2 "table") (f_3_loop : Fld K c 3 "loop") (f_3_place : Fld K c 3 "place") (f_4_index : Fld K c 4 "index") (f_4_stream : Fld K c 4 "stream") (f_5_place : Fld K c 5 "place") (f_6_table : Fld K c 6 "table") (f_7_at : Fld K c 7 "at") (f_8_at : Fld K c 8 "at") (f_9_name : Fld K c 9 "name") (f_10_name : Fld K c 10 "name") (f_11_name : Fld K c 11 "name") (f_12_at : Fld K c 12 "at") (f_13_at : Fld K c 13 "at") (f_14_name : Fld K c 14 "name") (f_15_at : Fld K c 15 "at") (f_16_number : Fld K c 16 "number") (f_17_table : Fld K c 17 "table") (f_18_limit : Fld K c 18 "limit") (f_19_limit : Fld K c 19 "limit") (f_20_many : Fld K c 20 "many") : FnOk P w K mg base CX0 1 f fd ["_law_some"] (spFields c) := by
  refine F.ok (N := ["_law_some", "_law_first", "_law_second"]) ⟨rfl, rfl, rfl, by decide +kernel, rfl, by decide +kernel, by decide +kernel⟩ (fun vs H Q E h => ?_) (fun cdv A outer s H vs Q E hr h => ?_)
  · obtain ⟨p, a, one, two, three, rfl, _⟩ := h
    rfl
  · obtain ⟨p, a, one, two, three, rfl, hp, es, k⟩ := h
    have nd : (["_law_some", "_law_first", "_law_second"] : List Str).Nodup := by decide +kernel
    refine ⟨_, (pss_cons (ps_set (i := 1) nd rfl (.inl rfl) (pe_lst (pa_cons (pe_errF (pe_ix ix_list (pv 0) pe_int (fun _ _ => rfl))) (pa_cons (pe_errF (pe_ix ix_list (pv 0) pe_int (fun _ _ => rfl))) (pa_cons (pe_errF (pe_ix ix_list (pv 0) pe_int (fun _ _ => rfl))) (pa_cons (pe_errF (pe_ix ix_list (pv 0) pe_int (fun _ _ => rfl))) (pa_cons (pe_errF (pe_ix ix_list (pv 0) pe_int (fun _ _ => rfl))) (pa_cons (pe_errF (pe_ix ix_list (pv 0) pe_int (fun _ _ => rfl))) pa_nil)))))))) (pss_cons (ps_set (i := 1) nd rfl (.inl rfl) (pe_op op_cat (pv 1) (pe_lst (pa_cons (pe_errF (pe_ix ix_list (pv 0) pe_int (fun _ _ => rfl))) (pa_cons (pe_errF (pe_ix ix_list (pv 0) pe_int (fun _ _ => rfl))) (pa_cons (pe_errF (pe_ix ix_list (pv 0) pe_int (fun _ _ => rfl))) (pa_cons (pe_errF (pe_ix ix_list (pv 0) pe_int (fun _ _ => rfl))) (pa_cons (pe_errF (pe_ix ix_list (pv 0) pe_int (fun _ _ => rfl))) (pa_cons (pe_errF (pe_ix ix_list (pv 0) pe_int (fun _ _ => rfl))) (pa_cons (pe_errF (pe_ix ix_list (pv 0) pe_int (fun _ _ => rfl))) pa_nil)))))))))) (pss_cons (ps_set (i := 1) nd rfl (.inl rfl) (pe_op op_cat (pv 1) (pe_lst (pa_cons (pe_errF (pe_ix ix_list (pv 0) pe_int (fun _ _ => rfl))) (pa_cons (pe_errF (pe_ix ix_list (pv 0) pe_int (fun _ _ => rfl))) (pa_cons (pe_errF (pe_ix ix_list (pv 0) pe_int (fun _ _ => rfl))) (pa_cons (pe_errF (pe_ix ix_list (pv 0) pe_int (fun _ _ => rfl))) (pa_cons (pe_errF (pe_ix ix_list (pv 0) pe_int (fun _ _ => rfl))) (pa_cons (pe_errF (pe_ix ix_list (pv 0) pe_int (fun _ _ => rfl))) pa_nil))))))))) (pss_cons (ps_set (i := 1) nd rfl (.inl rfl) (pe_op op_cat (pv 1) (pe_lst (pa_cons (pe_errF (pe_ix ix_list (pv 0) pe_int (fun _ _ => rfl))) (pa_cons (pe_errF (pe_ix ix_list (pv 0) pe_int (fun _ _ => rfl))) pa_nil))))) (pss_cons (ps_set (i := 2) nd rfl (.inl rfl) (pe_lst (pa_cons (pe_errF (pe_ix ix_list (pv 0) pe_int (fun _ _ => rfl))) (pa_cons (pe_errF (pe_ix ix_list (pv 0) pe_int (fun _ _ => rfl))) (pa_cons (pe_errF (pe_ix ix_list (pv 0) pe_int (fun _ _ => rfl))) (pa_cons (pe_errF (pe_ix ix_list (pv 0) pe_int (fun _ _ => rfl))) (pa_cons (pe_errF (pe_ix ix_list (pv 0) pe_int (fun _ _ => rfl))) pa_nil))))))) (pss_one (ps_ret (pe_lst (pa_cons (pv 1) (pa_cons (pv 2) (pa_cons (pe_lst (pa_cons (pe_errF (pe_ix ix_list (pv 0) pe_int (fun _ _ => rfl))) pa_nil)) pa_nil))))))))))), ?_⟩
    have lk0 : ∀ {f : Str} {v : V} {r : List (Str × V)}, List.lookup f ((f, v) :: r) = some v := by intro f v r; simp
    have lk_0_index : List.lookup ("index" : Str) (flds one two three 0) = some two := by with_unfolding_all rfl
    have lk_0_stream : List.lookup ("stream" : Str) (flds one two three 0) = some one := by with_unfolding_all rfl
    have lk_0_word : List.lookup ("word" : Str) (flds one two three 0) = some three := by with_unfolding_all rfl
    have lk_1_column : List.lookup ("column" : Str) (flds one two three 1) = some two := by with_unfolding_all rfl
    have lk_1_table : List.lookup ("table" : Str) (flds one two three 1) = some one := by with_unfolding_all rfl
    have lk_2_at : List.lookup ("at" : Str) (flds one two three 2) = some two := by with_unfolding_all rfl
    have lk_2_table : List.lookup ("table" : Str) (flds one two three 2) = some one := by with_unfolding_all rfl
    have lk_3_loop : List.lookup ("loop" : Str) (flds one two three 3) = some two := by with_unfolding_all rfl
    have lk_3_place : List.lookup ("place" : Str) (flds one two three 3) = some one := by with_unfolding_all rfl
    have lk_4_index : List.lookup ("index" : Str) (flds one two three 4) = some two := by with_unfolding_all rfl
    have lk_4_stream : List.lookup ("stream" : Str) (flds one two three 4) = some one := by with_unfolding_all rfl
    have lk_5_place : List.lookup ("place" : Str) (flds one two three 5) = some one := by with_unfolding_all rfl
    have lk_6_table : List.lookup ("table" : Str) (flds one two three 6) = some one := by with_unfolding_all rfl
    have lk_7_at : List.lookup ("at" : Str) (flds one two three 7) = some one := by with_unfolding_all rfl
    have lk_8_at : List.lookup ("at" : Str) (flds one two three 8) = some one := by with_unfolding_all rfl
    have lk_9_name : List.lookup ("name" : Str) (flds one two three 9) = some one := by with_unfolding_all rfl
    have lk_10_name : List.lookup ("name" : Str) (flds one two three 10) = some one := by with_unfolding_all rfl
    have lk_11_name : List.lookup ("name" : Str) (flds one two three 11) = some one := by with_unfolding_all rfl
    have lk_12_at : List.lookup ("at" : Str) (flds one two three 12) = some one := by with_unfolding_all rfl
    have lk_13_at : List.lookup ("at" : Str) (flds one two three 13) = some one := by with_unfolding_all rfl
    have lk_14_name : List.lookup ("name" : Str) (flds one two three 14) = some one := by with_unfolding_all rfl
    have lk_15_at : List.lookup ("at" : Str) (flds one two three 15) = some one := by with_unfolding_all rfl
    have lk_16_number : List.lookup ("number" : Str) (flds one two three 16) = some one := by with_unfolding_all rfl
    have lk_17_table : List.lookup ("table" : Str) (flds one two three 17) = some one := by with_unfolding_all rfl
    have lk_18_limit : List.lookup ("limit" : Str) (flds one two three 18) = some one := by with_unfolding_all rfl
    have lk_19_limit : List.lookup ("limit" : Str) (flds one two three 19) = some one := by with_unfolding_all rfl
    have lk_20_many : List.lookup ("many" : Str) (flds one two three 20) = some one := by with_unfolding_all rfl
    have sq : SqL K H p (el a) := .inl (.inl hp)
    refine ⟨_, rfl, p, _, 0, _, rfl, rfl, sq, rfl, a 0, c 0, _, _, rfl, es.e0, cc 0 (by decide), f_0_stream, lk_0_stream, _, rfl, p, _, 1, _, rfl, rfl, sq, rfl, a 1, c 1, _, _, rfl, es.e1, cc 1 (by decide), f_1_table, lk_1_table, _, rfl, p, _, 2, _, rfl, rfl, sq, rfl, a 2, c 2, _, _, rfl, es.e2, cc 2 (by decide), f_2_table, lk_2_table, _, rfl, p, _, 3, _, rfl, rfl, sq, rfl, a 3, c 3, _, _, rfl, es.e3, cc 3 (by decide), f_3_place, lk_3_place, _, rfl, p, _, 4, _, rfl, rfl, sq, rfl, a 4, c 4, _, _, rfl, es.e4, cc 4 (by decide), f_4_stream, lk_4_stream, _, rfl, p, _, 5, _, rfl, rfl, sq, rfl, a 5, c 5, _, _, rfl, es.e5, cc 5 (by decide), f_5_place, lk_5_place, by show 6 ≤ sizeLine; decide, fun l0 m0 => ?_⟩
    have x0 := (Ext.refl H).new (o := .lst (List.replicate 6 one)) m0
    have w0 : (upd H l0 (.lst (List.replicate 6 one))) l0 = _ := upd_same
    show tSeq _ _ _ _ (upd H l0 (.lst (List.replicate 6 one)))
    generalize (upd H l0 (.lst (List.replicate 6 one))) = H1 at x0 w0
    have es1 := es.ext x0
    have sq1 : SqL K H1 p (el a) := .inl (.inl (x0 _ _ hp))
    refine ⟨_, rfl, _, rfl, p, _, 6, _, rfl, rfl, sq1, rfl, a 6, c 6, _, _, rfl, es1.e6, cc 6 (by decide), f_6_table, lk_6_table, _, rfl, p, _, 7, _, rfl, rfl, sq1, rfl, a 7, c 7, _, _, rfl, es1.e7, cc 7 (by decide), f_7_at, lk_7_at, _, rfl, p, _, 8, _, rfl, rfl, sq1, rfl, a 8, c 8, _, _, rfl, es1.e8, cc 8 (by decide), f_8_at, lk_8_at, _, rfl, p, _, 9, _, rfl, rfl, sq1, rfl, a 9, c 9, _, _, rfl, es1.e9, cc 9 (by decide), f_9_name, lk_9_name, _, rfl, p, _, 10, _, rfl, rfl, sq1, rfl, a 10, c 10, _, _, rfl, es1.e10, cc 10 (by decide), f_10_name, lk_10_name, _, rfl, p, _, 11, _, rfl, rfl, sq1, rfl, a 11, c 11, _, _, rfl, es1.e11, cc 11 (by decide), f_11_name, lk_11_name, _, rfl, p, _, 12, _, rfl, rfl, sq1, rfl, a 12, c 12, _, _, rfl, es1.e12, cc 12 (by decide), f_12_at, lk_12_at, by show 7 ≤ sizeLine; decide, fun b1 nb1 => ?_⟩
    have y1 := (Ext.refl H1).new (o := .lst (List.replicate 7 one)) nb1
    refine ⟨l0, b1, _, _, rfl, rfl, y1 _ _ w0, upd_same, by show 13 ≤ sizeLine; decide, fun l1 m1 => ?_⟩
    have x1 := x0.trans (y1.new (o := .lst (List.replicate 13 one)) m1)
    have w1 : (upd (upd H1 b1 (.lst (List.replicate 7 one))) l1 (.lst (List.replicate 13 one))) l1 = _ := upd_same
    show tSeq _ _ _ _ (upd (upd H1 b1 (.lst (List.replicate 7 one))) l1 (.lst (List.replicate 13 one)))
    generalize (upd (upd H1 b1 (.lst (List.replicate 7 one))) l1 (.lst (List.replicate 13 one))) = H2 at x1 w1
    have es2 := es.ext x1
    have sq2 : SqL K H2 p (el a) := .inl (.inl (x1 _ _ hp))
    refine ⟨_, rfl, _, rfl, p, _, 13, _, rfl, rfl, sq2, rfl, a 13, c 13, _, _, rfl, es2.e13, cc 13 (by decide), f_13_at, lk_13_at, _, rfl, p, _, 14, _, rfl, rfl, sq2, rfl, a 14, c 14, _, _, rfl, es2.e14, cc 14 (by decide), f_14_name, lk_14_name, _, rfl, p, _, 15, _, rfl, rfl, sq2, rfl, a 15, c 15, _, _, rfl, es2.e15, cc 15 (by decide), f_15_at, lk_15_at, _, rfl, p, _, 16, _, rfl, rfl, sq2, rfl, a 16, c 16, _, _, rfl, es2.e16, cc 16 (by decide), f_16_number, lk_16_number, _, rfl, p, _, 17, _, rfl, rfl, sq2, rfl, a 17, c 17, _, _, rfl, es2.e17, cc 17 (by decide), f_17_table, lk_17_table, _, rfl, p, _, 18, _, rfl, rfl, sq2, rfl, a 18, c 18, _, _, rfl, es2.e18, cc 18 (by decide), f_18_limit, lk_18_limit, by show 6 ≤ sizeLine; decide, fun b2 nb2 => ?_⟩
    have y2 := (Ext.refl H2).new (o := .lst (List.replicate 6 one)) nb2
    refine ⟨l1, b2, _, _, rfl, rfl, y2 _ _ w1, upd_same, by show 19 ≤ sizeLine; decide, fun l2 m2 => ?_⟩
    have x2 := x1.trans (y2.new (o := .lst (List.replicate 19 one)) m2)
    have w2 : (upd (upd H2 b2 (.lst (List.replicate 6 one))) l2 (.lst (List.replicate 19 one))) l2 = _ := upd_same
    show tSeq _ _ _ _ (upd (upd H2 b2 (.lst (List.replicate 6 one))) l2 (.lst (List.replicate 19 one)))
    generalize (upd (upd H2 b2 (.lst (List.replicate 6 one))) l2 (.lst (List.replicate 19 one))) = H3 at x2 w2
    have es3 := es.ext x2
    have sq3 : SqL K H3 p (el a) := .inl (.inl (x2 _ _ hp))
    refine ⟨_, rfl, _, rfl, p, _, 19, _, rfl, rfl, sq3, rfl, a 19, c 19, _, _, rfl, es3.e19, cc 19 (by decide), f_19_limit, lk_19_limit, _, rfl, p, _, 20, _, rfl, rfl, sq3, rfl, a 20, c 20, _, _, rfl, es3.e20, cc 20 (by decide), f_20_many, lk_20_many, by show 2 ≤ sizeLine; decide, fun b3 nb3 => ?_⟩
    have y3 := (Ext.refl H3).new (o := .lst (List.replicate 2 one)) nb3
    refine ⟨l2, b3, _, _, rfl, rfl, y3 _ _ w2, upd_same, by show 21 ≤ sizeLine; decide, fun l3 m3 => ?_⟩
    have x3 := x2.trans (y3.new (o := .lst (List.replicate 21 one)) m3)
    have w3 : (upd (upd H3 b3 (.lst (List.replicate 2 one))) l3 (.lst (List.replicate 21 one))) l3 = _ := upd_same
    show tSeq _ _ _ _ (upd (upd H3 b3 (.lst (List.replicate 2 one))) l3 (.lst (List.replicate 21 one)))
    generalize (upd (upd H3 b3 (.lst (List.replicate 2 one))) l3 (.lst (List.replicate 21 one))) = H4 at x3 w3
    have es4 := es.ext x3
    have sq4 : SqL K H4 p (el a) := .inl (.inl (x3 _ _ hp))
    refine ⟨_, rfl, p, _, 0, _, rfl, rfl, sq4, rfl, a 0, c 0, _, _, rfl, es4.e0, cc 0 (by decide), f_0_index, lk_0_index, _, rfl, p, _, 1, _, rfl, rfl, sq4, rfl, a 1, c 1, _, _, rfl, es4.e1, cc 1 (by decide), f_1_column, lk_1_column, _, rfl, p, _, 2, _, rfl, rfl, sq4, rfl, a 2, c 2, _, _, rfl, es4.e2, cc 2 (by decide), f_2_at, lk_2_at, _, rfl, p, _, 3, _, rfl, rfl, sq4, rfl, a 3, c 3, _, _, rfl, es4.e3, cc 3 (by decide), f_3_loop, lk_3_loop, _, rfl, p, _, 4, _, rfl, rfl, sq4, rfl, a 4, c 4, _, _, rfl, es4.e4, cc 4 (by decide), f_4_index, lk_4_index, by show 5 ≤ sizeLine; decide, fun q2 m4 => ?_⟩
    have x4 := x3.new (o := .lst (List.replicate 5 two)) m4
    have w4 : (upd H4 q2 (.lst (List.replicate 5 two))) q2 = _ := upd_same
    have w3' := ((Ext.refl H4).new (o := .lst (List.replicate 5 two)) m4) _ _ w3
    have es5 := es.ext x4
    have sq5 : SqL K (upd H4 q2 (.lst (List.replicate 5 two))) p (el a) := .inl (.inl (x4 _ _ hp))
    refine ⟨_, rfl, _, rfl, _, rfl, p, _, 0, _, rfl, rfl, sq5, rfl, a 0, c 0, _, _, rfl, es5.e0, cc 0 (by decide), f_0_word, lk_0_word, by show 1 ≤ sizeLine; decide, fun q3 m5 => ?_⟩
    have x5 := (Ext.refl _).new (o := .lst [three]) m5
    refine ⟨by show 3 ≤ sizeLine; decide, fun q m6 => ?_⟩
    have x6 := x5.new (o := .lst [.ref l3, .ref q2, .ref q3]) m6
    have x7 := ((Ext.refl (upd (upd H4 q2 (.lst (List.replicate 5 two))) q3 (.lst [three]))).new (o := .lst [.ref l3, .ref q2, .ref q3]) m6)
    exact k q l3 q2 q3 _ (x4.back (x5.back m6)) (x4.trans x6) upd_same (x6 _ _ w3') (x6 _ _ w4) (x7 _ _ upd_same)
end
end AL
namespace AL
open PySem PySem.Spec PyProof.Rows L2
abbrev s_thing : Stmt := top 34
/-- a drawn thing and the objects that it stands on; k: how often it may have grown -/
inductive TW (k : Nat) (H : Hp) : V → List Addr → Prop
  | non : TW k H .non []
  | bl (b : Bool) : TW k H (.bl b) []
  | int (i : Int) (h : i.natAbs.log2 < 200) : TW k H (.int i) []
  | str (x : Str) (h : Tx 8 x) : TW k H (.str x) []
  | tupT (a b : Addr) (h : H a = some (.tup [.int 1, .ref b])) (h' : H b = some (.tup [.int 2])) : TW k H (.ref a) [a, b]
  | lstL (a b : Addr) (n : Nat) (hn : n ≤ k) (h : H a = some (.lst (.int 3 :: .ref b :: List.replicate n (.str "new")))) (h' : H b = some (.lst [.int 4])) (ne : a ≠ b) : TW k H (.ref a) [a, b]
  | lstS (a : Addr) (xs : List Str) (hn : xs.length ≤ k) (h : H a = some (.lst (xs.map V.str))) (t : ∀ x ∈ xs, Tx 8 x) : TW k H (.ref a) [a]
  | dct (a : Addr) (kvs : List (Key × V)) (h : H a = some (.dK kvs)) (q : kvs = [(.inr "a", .int 1)] ∨ kvs = [(.inr "a", .int 1), (.inr "b", .int 2)]) : TW k H (.ref a) [a]
theorem TW.mono {k j : Nat} {H : Hp} {v : V} {F : List Addr} (h : k ≤ j) : TW k H v F → TW j H v F
  | .non => .non
  | .bl b => .bl b
  | .int i z => .int i z
  | .str x z => .str x z
  | .tupT a b x y => .tupT a b x y
  | .lstL a b n hn x y ne => .lstL a b n (Nat.le_trans hn h) x y ne
  | .lstS a xs hn x t => .lstS a xs (Nat.le_trans hn h) x t
  | .dct a kvs x q => .dct a kvs x q
/-- only what stands there matters -/
theorem TW.to {k : Nat} {H H' : Hp} {v : V} {F : List Addr} (t : TW k H v F) : (∀ a ∈ F, ∀ o, H a = some o → H' a = some o) → TW k H' v F := by
  intro e
  cases t with
  | non => exact .non
  | bl b => exact .bl b
  | int i z => exact .int i z
  | str x z => exact .str x z
  | tupT a b x y => exact .tupT a b (e a (by simp) _ x) (e b (by simp) _ y)
  | lstL a b n hn x y ne => exact .lstL a b n hn (e a (by simp) _ x) (e b (by simp) _ y) ne
  | lstS a xs hn x t => exact .lstS a xs hn (e a (by simp) _ x) t
  | dct a kvs x q => exact .dct a kvs (e a (by simp) _ x) q
/-- what may stand there: no error's object -/
theorem TW.kind {k : Nat} {H : Hp} {v : V} {F : List Addr} (t : TW k H v F) : ∀ a ∈ F, ∃ o, H a = some o ∧ ∀ φ, o ≠ .ext φ := by
  cases t with
  | tupT a b x y =>
    intro c hc
    rcases List.mem_cons.mp hc with rfl | hc
    · exact ⟨_, x, fun φ z => by cases z⟩
    · rw [List.mem_singleton.mp hc]
      exact ⟨_, y, fun φ z => by cases z⟩
  | lstL a b n hn x y ne =>
    intro c hc
    rcases List.mem_cons.mp hc with rfl | hc
    · exact ⟨_, x, fun φ z => by cases z⟩
    · rw [List.mem_singleton.mp hc]
      exact ⟨_, y, fun φ z => by cases z⟩
  | lstS a xs hn x t =>
    intro c hc
    rw [List.mem_singleton.mp hc]
    exact ⟨_, x, fun φ z => by cases z⟩
  | dct a kvs x q =>
    intro c hc
    rw [List.mem_singleton.mp hc]
    exact ⟨_, x, fun φ z => by cases z⟩
  | _ => intro c hc; cases hc
/-- small data -/
def SmD (n : Nat) (d : PyData) : Prop := d.showable = true ∧ d.depth ≤ 3 ∧ d.leavesShort 1950 = true ∧ d.weight ≤ n
theorem strs_dd {K : PySem.W.Frag} {H : Hp} : ∀ xs : List Str, DdA K H (xs.map V.str) (xs.map PyData.str)
  | [] => .nil
  | x :: xs => .cons (.str x) (strs_dd xs)
theorem strs_sm : ∀ {xs : List Str}, (∀ x ∈ xs, Tx 8 x) → PyData.showableAll (xs.map PyData.str) = true ∧ PyData.depthAll (xs.map PyData.str) = 0 ∧ PyData.leavesShortAll 1950 (xs.map PyData.str) = true ∧ PyData.weightAll (xs.map PyData.str) ≤ 9 * xs.length
  | [], _ => ⟨rfl, rfl, rfl, Nat.le_refl _⟩
  | x :: xs, h => by
    obtain ⟨h1, h2, h3, h4⟩ := strs_sm (xs := xs) fun y hy => h y (List.mem_cons_of_mem _ hy)
    have tx := h x List.mem_cons_self
    refine ⟨?_, ?_, ?_, ?_⟩
    · simp only [List.map_cons, PyData.showableAll, PyData.showable, h1, Bool.and_true]
    · simp only [List.map_cons, PyData.depthAll, PyData.depth, h2]
      rfl
    · simp only [List.map_cons, PyData.leavesShortAll, tx_short tx, h3, Bool.and_true]
    · have := tx_weight tx
      simp only [List.map_cons, PyData.weightAll, List.length_cons]
      omega
theorem tx_new : Tx 8 (Str.ofString "new") := Tx.of (by decide +kernel)
theorem rep_map {n : Nat} {x : Str} : List.replicate n (V.str x) = (List.replicate n x).map V.str := by rw [List.map_replicate]
theorem TW.data {K : PySem.W.Frag} {k : Nat} {H : Hp} {v : V} {F : List Addr} (hk : k ≤ 10) (t : TW k H v F) : ∃ d, Dd K H v d ∧ SmD 210 d := by
  cases t with
  | non => exact ⟨_, .non, rfl, by simp [PyData.depth], rfl, by simp [PyData.weight]⟩
  | bl b => exact ⟨_, .bl b, rfl, by simp [PyData.depth], rfl, by simp [PyData.weight]⟩
  | int i z =>
    refine ⟨_, .int i, by simp only [PyData.showable, decide_eq_true_eq]; omega, by simp [PyData.depth], ?_, ?_⟩
    · simp only [PyData.leavesShort, decide_eq_true_eq]
      exact Nat.le_trans (int_text_len_1921 (Nat.lt_trans z (by decide))) (by decide)
    · simp only [PyData.weight]
      split <;> omega
  | str x z => exact ⟨_, .str x, rfl, by simp [PyData.depth], tx_short z, Nat.le_trans (tx_weight z) (by decide)⟩
  | tupT a b x y => exact ⟨_, .tup (.inl (.inl x)) (.cons (.int 1) (.cons (.tup (.inl (.inl y)) (.cons (.int 2) .nil)) .nil)), by decide +kernel, by decide +kernel, by decide +kernel, by decide +kernel⟩
  | lstL a b n hn x y ne =>
    rw [rep_map] at x
    have all : ∀ z ∈ List.replicate n (Str.ofString "new"), Tx 8 z := fun z hz => by rw [List.eq_of_mem_replicate hz]; exact tx_new
    obtain ⟨h1, h2, h3, h4⟩ := strs_sm all
    refine ⟨_, .lst (.inl (.inl x)) (.cons (.int 3) (.cons (.lst (.inl (.inl y)) (.cons (.int 4) .nil)) (strs_dd _))), ?_, ?_, ?_, ?_⟩
    · simp only [PyData.showable, PyData.showableAll, h1, Bool.and_true]
      decide +kernel
    · simp only [PyData.depth, PyData.depthAll, h2]
      decide
    · simp only [PyData.leavesShort, PyData.leavesShortAll, h3, Bool.and_true]
      decide +kernel
    · rw [List.length_replicate] at h4
      have e1 : PyData.weight (.int 3) = 2 := by decide +kernel
      have e2 : PyData.weight (.list [.int 4]) = 4 := by decide +kernel
      simp only [PyData.weight, PyData.weightAll] at e1 e2 ⊢
      omega
  | lstS a xs hn x t =>
    obtain ⟨h1, h2, h3, h4⟩ := strs_sm t
    refine ⟨_, .lst (.inl (.inl x)) (strs_dd xs), ?_, ?_, ?_, ?_⟩
    · simp only [PyData.showable, h1]
    · simp only [PyData.depth, h2]
      decide
    · simp only [PyData.leavesShort, h3]
    · simp only [PyData.weight]
      omega
  | dct a kvs x q =>
    rcases q with rfl | rfl
    · exact ⟨_, .dic x (.cons (.int 1) .nil), by decide +kernel, by decide +kernel, by decide +kernel, by decide +kernel⟩
    · exact ⟨_, .dic x (.cons (.int 1) (.cons (.int 2) .nil)), by decide +kernel, by decide +kernel, by decide +kernel, by decide +kernel⟩
section
variable {P : Program} {w : World} {K : PySem.W.Frag} {mg : Str → Option Value} {base : Heap} {c : Nat → Addr}
def spThing : Sp := fun vs H Q _ => ∃ b l, vs = [.ref b] ∧ BagS H b l ∧ ∀ v H' F, BagS H' b l → ExtB b H H' → TW 1 H' v F → (∀ a ∈ F, H a = none) → Q v H'
theorem at_id {xs : List V} {r : Int} (h0 : 0 ≤ r) (h1 : r < (xs.length : Int)) : ∃ x ∈ xs, atI xs r = some x := by
  obtain ⟨n, rfl⟩ : ∃ n : Nat, r = (n : Int) := ⟨r.toNat, by omega⟩
  have hn : n < xs.length := by omega
  exact ⟨xs[n], List.getElem_mem hn, atI_nat (List.getElem?_eq_getElem hn)⟩
theorem ok_thing {f f_take : Addr} {fd fd_take : FuncData} (F : Fun K "_law_thing" "_law_thing" s_thing f fd) (T : Blt mg)
    (F_take : Fun K "_law_take" "_law_take" sTake f_take fd_take) (b_take : Binds K fd_take ["_law_bag_here", "_law_most"] []) (m_take : mg "_law_take" = some (.ref f_take)) : FnOk P w K mg base CX0 2 f fd ["_law_bag_here"] spThing := by
  have G_take : FnOk P w K mg base CX0 1 f_take fd_take ["_law_bag_here", "_law_most"] spTake := ok_take F_take T
  refine F.ok (N := ["_law_bag_here", "_law_some"]) ⟨rfl, rfl, rfl, by decide +kernel, rfl, by decide +kernel, by decide +kernel⟩ (fun vs H Q E h => ?_) (fun cdv A outer s H vs Q E hr h => ?_)
  · obtain ⟨b, l, rfl, _⟩ := h
    rfl
  · obtain ⟨b, l, rfl, hB, k⟩ := h
    have nd : (["_law_bag_here", "_law_some"] : List Str).Nodup := by decide +kernel
    refine ⟨_, (pss_cons (ps_set (i := 1) nd rfl (.inl rfl) (pe_lst (pa_cons (pe_op op_sub (pe_call G_take (hr.mono (by decide)) (by rfl) m_take F_take.kp b_take .nil pass0 (pa_cons (pv 0) (pa_cons pe_int pa_nil))) pe_int) (pa_cons (pe_op op_pow pe_int pe_int) (pa_cons pe_str (pa_cons pe_str (pa_cons pe_bl (pa_cons pe_non (pa_cons (pe_tup (pa_cons pe_int (pa_cons (pe_tup (pa_cons pe_int pa_nil)) pa_nil))) (pa_cons (pe_lst (pa_cons pe_int (pa_cons (pe_lst (pa_cons pe_int pa_nil)) pa_nil))) (pa_cons (pe_disp (pps_cons pe_str pe_int pps_nil) (by rfl) (by rfl) (fun z => by cases z) (by decide)) (pa_cons (pe_lst pa_nil) (pa_cons (pe_lst (pa_cons pe_str pa_nil)) pa_nil))))))))))))) (pss_one (ps_ret (pe_ix ix_list (pv 1) (pe_call G_take (hr.mono (by decide)) (by rfl) m_take F_take.kp b_take .nil pass0 (pa_cons (pv 0) (pa_cons pe_int pa_nil))) (fun _ _ => rfl))))), ?_⟩
    refine ⟨_, rfl, b, l, 1000, rfl, hB, by decide, by decide, fun r H1 r0 r1 B1 s1 => ?_⟩
    refine ⟨_, _, rfl, rfl, _, _, rfl, rfl, ⟨by decide, by decide, by decide⟩, ?_⟩
    refine ⟨by show 1 ≤ sizeLine; decide, fun p2 n2 => ⟨by show 2 ≤ sizeLine; decide, fun p1 n1 => ?_⟩⟩
    refine ⟨by show 1 ≤ sizeLine; decide, fun p4 n4 => ⟨by show 2 ≤ sizeLine; decide, fun p3 n3 => ?_⟩⟩
    intro p5 n5
    refine ⟨upd_same, [(.inr "a", .int 1)], rfl, by show 1 ≤ 15; decide, ?_⟩
    rw [upd_upd]
    refine ⟨by show 0 ≤ sizeLine; decide, fun p6 n6 => ⟨by show 1 ≤ sizeLine; decide, fun p7 n7 => ⟨by show 11 ≤ sizeLine; decide, fun q nq => ?_⟩⟩⟩
    have x1 : ExtB b H H1 := .of s1
    have y2 := (Ext.refl H1).new (o := .tup [.int 2]) n2
    have y1 := (Ext.refl _).new (o := .tup [.int 1, .ref p2]) n1
    have y4 := (Ext.refl _).new (o := .lst [.int 4]) n4
    have y3 := (Ext.refl _).new (o := .lst [.int 3, .ref p4]) n3
    have y5 := (Ext.refl _).new (o := .dK [(.inr "a", .int 1)]) n5
    have y6 := (Ext.refl _).new (o := .lst []) n6
    have y7 := (Ext.refl _).new (o := .lst [.str "old"]) n7
    have yq := (Ext.refl _).new (o := .lst [.int (r - 500), .int (10 ^ 40), .str "x", .str "", .bl true, .non, .ref p1, .ref p3, .ref p5, .ref p6, .ref p7]) nq
    have z7 := y7.trans yq
    have z6 := y6.trans z7
    have z5 := y5.trans z6
    have z3 := y3.trans z5
    have z4 := y4.trans z3
    have z1 := y1.trans z4
    have z2 := y2.trans z1
    have g2 := z1 _ _ upd_same
    have g1 := z4 _ _ upd_same
    have g4 := z3 _ _ upd_same
    have g3 := z5 _ _ upd_same
    have g5 := z6 _ _ upd_same
    have g6 := z7 _ _ upd_same
    have g7 := yq _ _ upd_same
    have gq : (upd (upd (upd (upd (upd (upd (upd (upd H1 p2 (.tup [.int 2])) p1 (.tup [.int 1, .ref p2])) p4 (.lst [.int 4])) p3 (.lst [.int 3, .ref p4])) p5 (.dK [(.inr "a", .int 1)])) p6 (.lst [])) p7 (.lst [.str "old"])) q (.lst [.int (r - 500), .int (10 ^ 40), .str "x", .str "", .bl true, .non, .ref p1, .ref p3, .ref p5, .ref p6, .ref p7])) q = _ := upd_same
    have w1 : H p1 = none := x1.back B1 (y2.back n1)
    have w2 : H p2 = none := x1.back B1 n2
    have w4 : H p4 = none := x1.back B1 ((y2.trans y1).back n4)
    have w3 : H p3 = none := x1.back B1 (((y2.trans y1).trans y4).back n3)
    have w5 : H p5 = none := x1.back B1 ((((y2.trans y1).trans y4).trans y3).back n5)
    have w6 : H p6 = none := x1.back B1 (((((y2.trans y1).trans y4).trans y3).trans y5).back n6)
    have w7 : H p7 = none := x1.back B1 ((((((y2.trans y1).trans y4).trans y3).trans y5).trans y6).back n7)
    have nqb : q ≠ b := ne_bag (B1.ext (((((((y2.trans y1).trans y4).trans y3).trans y5).trans y6).trans y7))) nq
    have n43 : p3 ≠ p4 := (ne_of_none upd_same n3).symm
    have B2 := B1.ext z2
    have x2 := x1.trans z2.b
    refine ⟨_, rfl, _, rfl, b, l, 11, rfl, B2, by decide, by decide, fun r2 H3 r20 r21 B3 s3 => ?_⟩
    have x3 : ExtB b (upd (upd (upd (upd (upd (upd (upd (upd H1 p2 (.tup [.int 2])) p1 (.tup [.int 1, .ref p2])) p4 (.lst [.int 4])) p3 (.lst [.int 3, .ref p4])) p5 (.dK [(.inr "a", .int 1)])) p6 (.lst [])) p7 (.lst [.str "old"])) q (.lst [.int (r - 500), .int (10 ^ 40), .str "x", .str "", .bl true, .non, .ref p1, .ref p3, .ref p5, .ref p6, .ref p7])) H3 := .of s3
    have hq3 : H3 q = some (.lst [.int (r - 500), .int (10 ^ 40), .str "x", .str "", .bl true, .non, .ref p1, .ref p3, .ref p5, .ref p6, .ref p7]) := by rw [s3 _ nqb]; exact gq
    obtain ⟨v, vm, ve⟩ := at_id (xs := [.int (r - 500), .int (10 ^ 40), .str "x", .str "", .bl true, .non, .ref p1, .ref p3, .ref p5, .ref p6, .ref p7]) r20 (by show r2 < 11; omega)
    refine ⟨q, _, r2, v, rfl, rfl, .inl (.inl hq3), ve, ?_⟩
    have X := x2.trans x3
    have nbk : ∀ p, H p = none → p ≠ b := fun p hp => ne_bag hB hp
    have h1 := x3 _ _ (nbk _ w1) g1
    have h2 := x3 _ _ (nbk _ w2) g2
    have h3 := x3 _ _ (nbk _ w3) g3
    have h4 := x3 _ _ (nbk _ w4) g4
    have h5 := x3 _ _ (nbk _ w5) g5
    have h6 := x3 _ _ (nbk _ w6) g6
    have h7 := x3 _ _ (nbk _ w7) g7
    simp only [List.mem_cons, List.not_mem_nil, or_false] at vm
    rcases vm with rfl | rfl | rfl | rfl | rfl | rfl | rfl | rfl | rfl | rfl | rfl
    · refine k _ _ [] B3 X (.int _ ?_) (by simp)
      have hz : (r - 500).natAbs < 2 ^ 200 := by omega
      by_cases h0 : (r - 500).natAbs = 0
      · rw [h0]
        decide
      · exact (Nat.log2_lt h0).mpr hz
    · exact k _ _ [] B3 X (.int _ (by decide)) (by simp)
    · exact k _ _ [] B3 X (.str _ (Tx.of (by decide +kernel))) (by simp)
    · exact k _ _ [] B3 X (.str _ (Tx.of (by decide +kernel))) (by simp)
    · exact k _ _ [] B3 X (.bl _) (by simp)
    · exact k _ _ [] B3 X .non (by simp)
    · exact k _ _ _ B3 X (.tupT p1 p2 h1 h2) (by intro a ha; rcases List.mem_cons.mp ha with rfl | ha; exact w1; rw [List.mem_singleton.mp ha]; exact w2)
    · exact k _ _ _ B3 X (.lstL p3 p4 0 (by decide) h3 h4 n43) (by intro a ha; rcases List.mem_cons.mp ha with rfl | ha; exact w3; rw [List.mem_singleton.mp ha]; exact w4)
    · exact k _ _ _ B3 X (.dct p5 _ h5 (.inl rfl)) (by intro a ha; rw [List.mem_singleton.mp ha]; exact w5)
    · exact k _ _ _ B3 X (.lstS p6 [] (by decide) h6 (by simp)) (by intro a ha; rw [List.mem_singleton.mp ha]; exact w6)
    · exact k _ _ _ B3 X (.lstS p7 ["old"] (by decide) h7 (Tx.all (by decide +kernel))) (by intro a ha; rw [List.mem_singleton.mp ha]; exact w7)
end
end AL
namespace AL
open PySem PySem.Spec PyProof.Rows L2
abbrev s_law : Stmt := top 38
def fb : List Stmt := forBody ((defBody s_law).getD 1 (.Pass ⟨0, 0, 0, 0⟩))
theorem Errs.of {H : Hp} {c a : Nat → Addr} {one two three : V} (e : Errs H c one two three a) : ∀ i, i < 28 → ErrAt H (a i) (c i) (flds one two three i)
  | 0, _ => e.e0
  | 1, _ => e.e1
  | 2, _ => e.e2
  | 3, _ => e.e3
  | 4, _ => e.e4
  | 5, _ => e.e5
  | 6, _ => e.e6
  | 7, _ => e.e7
  | 8, _ => e.e8
  | 9, _ => e.e9
  | 10, _ => e.e10
  | 11, _ => e.e11
  | 12, _ => e.e12
  | 13, _ => e.e13
  | 14, _ => e.e14
  | 15, _ => e.e15
  | 16, _ => e.e16
  | 17, _ => e.e17
  | 18, _ => e.e18
  | 19, _ => e.e19
  | 20, _ => e.e20
  | 21, _ => e.e21
  | 22, _ => e.e22
  | 23, _ => e.e23
  | 24, _ => e.e24
  | 25, _ => e.e25
  | 26, _ => e.e26
  | 27, _ => e.e27
  | n + 28, h => absurd h (by omega)
theorem el_at (a : Nat → Addr) {i : Nat} {v : V} (h : (el a)[i]? = some v) : i < 28 ∧ v = .ref (a i) := by
  have e : el a = (List.range 28).map fun j => V.ref (a j) := rfl
  rw [e, List.getElem?_map] at h
  obtain ⟨j, hj, rfl⟩ := Option.map_eq_some_iff.mp h
  obtain ⟨h1, h2⟩ := List.getElem?_eq_some_iff.mp hj
  rw [List.length_range] at h1
  rw [List.getElem_range] at h2
  subst h2
  exact ⟨h1, rfl⟩
/-- what is known of the classes -/
structure Clss (K : PySem.W.Frag) (mg : Str → Option Value) (c : Nat → Addr) (cP : Addr) : Prop where
  cc : ∀ j, j < 28 → ExcC K (c j)
  row : ∀ i, i < 28 → Row K c (c i) (fun j => j == i)
  pl : ∀ i, i < 28 → PySem.W.kitOne K (.ref (c i)) (.ref cP) = some true
  ve : ∀ i, i < 28 → PySem.W.kitOne K (.ref (c i)) (.type "ValueError") = some true
  ccP : ExcC K cP
  rowP : Row K c cP (fun _ => false)
  veP : PySem.W.kitOne K (.ref cP) (.type "ValueError") = some true
  g_PlanError : mg "PlanError" = some (.ref cP)
  q_PlanError : PySem.W.excIn K cP [.type "ValueError", .type "Exception", .type "BaseException", .type "object"] "ValueError.__new__" = true
  k_PlanError : PySem.W.keepIn K (.ref cP) = true
abbrev nLaw : List Str := ["_law_script", "_law_bag_here", "_law_turn", "_law_things", "_law_some", "_law_again", "_law_due", "_law_thing_here", "_law_at", "_law_e", "_law_k"]
theorem scLaw : FnScope nLaw ["_law_script"] (defScope s_law) := ⟨rfl, rfl, rfl, by decide +kernel, rfl, by decide +kernel, by decide +kernel⟩
theorem bl_flat : ∀ bs : List Bool, PyData.showableAll (bs.map PyData.bool) = true ∧ PyData.depthAll (bs.map PyData.bool) = 0 ∧ PyData.leavesShortAll 1950 (bs.map PyData.bool) = true ∧ PyData.weightAll (bs.map PyData.bool) = bs.length ∧ PyData.canLayAll0 (bs.map PyData.bool) = true
  | [] => ⟨rfl, rfl, rfl, rfl, rfl⟩
  | b :: bs => by
    obtain ⟨h1, h2, h3, h4, h5⟩ := bl_flat bs
    refine ⟨?_, ?_, ?_, ?_, ?_⟩
    · simp only [List.map_cons, PyData.showableAll, PyData.showable, h1, Bool.and_true]
    · simp only [List.map_cons, PyData.depthAll, PyData.depth, h2]
      rfl
    · simp only [List.map_cons, PyData.leavesShortAll, PyData.leavesShort, h3, Bool.and_true]
    · simp only [List.map_cons, PyData.weightAll, PyData.weight, h4, List.length_cons]
      omega
    · simp only [List.map_cons, PyData.canLayAll0, PyData.canLay0, h5, Bool.and_true]
theorem bdp {K : PySem.W.Frag} {H : Hp} : ∀ bs : List Bool, DpAll K H (bs.map V.bl) (bs.map PyData.bool)
  | [] => .nil
  | b :: bs => .cons (.bl b) (bdp bs)
section
variable {P : Program} {w : World} {K : PySem.W.Frag} {mg : Str → Option Value} {base : Heap} {c : Nat → Addr} {cP f_classes : Addr} {fd_classes : FuncData}
    {f : Addr} {cdv : Value} {A : Around} {outer : List Env} {s : Shared} {H : Hp} {E : XK}
/-- for e in [PlanError(..), ..] -/
theorem end5 (T : Blt mg) (L : Clss K mg c cP) (G_classes : FnOk P w K mg base CX0 1 f_classes fd_classes ["_law_e"] (spClasses K c)) (F_classes : Fun K "_law_classes" "_law_classes" s_classes f_classes fd_classes)
    (b_classes : Binds K fd_classes ["_law_e"] []) (m_classes : mg "_law_classes" = some (.ref f_classes)) (hr : Room 3 (A.deeper (envOfC "law" (defScope s_law) s.heap.objs.size f cdv))) :
    ∃ t, PSs (cxOf CX0 P w K mg base nLaw "law" (defScope s_law) f cdv A outer s H E).nox (fb.drop 4) t ∧
      ∀ (D : Ends) (x0 x1 x2 x4 x5 x6 x7 x8 x9 x10 : Option V) (tp : Addr) (v0 v1 v2 : V) (H1 : Hp), H1 tp = some (.lst [v0, v1, v2]) →
        (∀ y9 H2, Ext H1 H2 → D.nx [x0, x1, x2, some (.ref tp), x4, x5, x6, x7, x8, y9, x10] H2) → t D [x0, x1, x2, some (.ref tp), x4, x5, x6, x7, x8, x9, x10] H1 := by
  have nd := scLaw.nd
  obtain ⟨_, _, _, _, ccP, rowP, veP, g_PlanError, q_PlanError, k_PlanError⟩ := L
  refine ⟨_, (pss_one (ps_for PassesOwn.never rfl (pi_list (pe_lst (pa_cons (pe_exc q_PlanError g_PlanError k_PlanError (by rfl) (pa_cons (pe_ix ix_list (pv 3) pe_int (fun _ _ => rfl)) pa_nil)) (pa_cons (pe_exc0 q_PlanError g_PlanError k_PlanError (by rfl)) (pa_cons (pe_exc q_PlanError g_PlanError k_PlanError (by rfl) (pa_cons pe_str (pa_cons pe_int pa_nil))) pa_nil))))) (pg_name (i := 9) nd rfl (Or.inl rfl)) (pss_one (ps_if (PW.pt (pw_or (pt_cmpR op_in_seq pe_bl (pe_call G_classes (hr.mono (by decide)) (by rfl) m_classes F_classes.kp b_classes .nil pass0 (pa_cons (pv 9) pa_nil)) (by rfl)) (pw_or1 (pt_not (pt_val (pe_callB call_isErr (by rfl) T.isinstance (by decide +kernel) (pa_cons (pv 9) (pa_cons (pe_bltn (v := .ty "ValueError") (by rfl) T.ValueError (by decide +kernel) rfl) pa_nil)))))))) (pss_one (ps_ret pe_bl)) pss_nil)))), ?_⟩
  intro D x0 x1 x2 x4 x5 x6 x7 x8 x9 x10 tp v0 v1 v2 H1 htp k
  have sq : SqL K H1 tp [v0, v1, v2] := .inl (.inl htp)
  refine ⟨_, rfl, tp, _, 0, _, rfl, rfl, sq, rfl, by show 1 ≤ 1000; decide, fun a1 n1 => ⟨by show 0 ≤ 1000; decide, fun a2 n2 => ⟨by show 2 ≤ 1000; decide, fun a3 n3 => ⟨by show 3 ≤ sizeLine; decide, fun l nl => ⟨l, rfl, ⟨_, .inl (.inl upd_same)⟩, ?_⟩⟩⟩⟩⟩
  have y1 := (Ext.refl H1).new (o := ExO (.ref cP) a1) n1
  have y2 := (Ext.refl _).new (o := ExO (.ref cP) a2) n2
  have y3 := (Ext.refl _).new (o := ExO (.ref cP) a3) n3
  have y4 := (Ext.refl _).new (o := .lst [.ref a1, .ref a2, .ref a3]) nl
  have e1 := y4 _ _ (y3 _ _ (y2 _ _ upd_same))
  have e2 := y4 _ _ (y3 _ _ upd_same)
  have e3 := y4 _ _ upd_same
  have e4 : (upd (upd (upd (upd H1 a1 (ExO (.ref cP) a1)) a2 (ExO (.ref cP) a2)) a3 (ExO (.ref cP) a3)) l (.lst [.ref a1, .ref a2, .ref a3])) l = _ := upd_same
  have yy := ((y1.trans y2).trans y3).trans y4
  generalize (upd (upd (upd (upd H1 a1 (ExO (.ref cP) a1)) a2 (ExO (.ref cP) a2)) a3 (ExO (.ref cP) a3)) l (.lst [.ref a1, .ref a2, .ref a3])) = H2 at e1 e2 e3 e4 yy
  refine for_list (K := K) (a := l) (xs := [.ref a1, .ref a2, .ref a3]) (fun i σ H3 => (∃ y9, σ = [x0, x1, x2, some (.ref tp), x4, x5, x6, x7, x8, y9, x10]) ∧ Ext H2 H3) ⟨⟨_, rfl⟩, Ext.refl _⟩ (fun i σ H3 _ h => .inl (.inl (h.2 _ _ e4))) ?_ ?_
  · rintro i v σ H3 hi ⟨⟨y9, rfl⟩, ex⟩
    obtain ⟨a, rfl, ha⟩ : ∃ a, v = .ref a ∧ H3 a = some (ExO (.ref cP) a) := by
      have hm := List.mem_of_getElem? hi
      simp only [List.mem_cons, List.not_mem_nil, or_false] at hm
      rcases hm with rfl | rfl | rfl
      · exact ⟨_, rfl, ex _ _ e1⟩
      · exact ⟨_, rfl, ex _ _ e2⟩
      · exact ⟨_, rfl, ex _ _ e3⟩
    refine ⟨_, rfl, a, cP, fun _ => false, rfl, .inr ha, ccP, rowP, fun p H4 np e5 hp => ?_⟩
    refine ⟨p, _, rfl, .inl (.inl (.inl hp)), rfl, by decide +kernel, _, rfl, ?_⟩
    refine iteF ⟨_, rfl, a, cP, .ty "ValueError", _, true, rfl, .inr (e5 _ _ ha), ccP, .ty _, veP, _, rfl, iteF ?_⟩
    exact ⟨⟨_, rfl⟩, ex.trans e5⟩
  · rintro σ H3 ⟨⟨y9, rfl⟩, ex⟩
    exact k _ _ (yy.trans ex)
/-- for at, e in enumerate(some) -/
theorem end4 (T : Blt mg) (L : Clss K mg c cP) (G_classes : FnOk P w K mg base CX0 1 f_classes fd_classes ["_law_e"] (spClasses K c)) (F_classes : Fun K "_law_classes" "_law_classes" s_classes f_classes fd_classes)
    (b_classes : Binds K fd_classes ["_law_e"] []) (m_classes : mg "_law_classes" = some (.ref f_classes)) (hr : Room 3 (A.deeper (envOfC "law" (defScope s_law) s.heap.objs.size f cdv))) :
    ∃ t, PSs (cxOf CX0 P w K mg base nLaw "law" (defScope s_law) f cdv A outer s H E).nox (fb.drop 3) t ∧
      ∀ (D : Ends) (x0 x1 x2 x5 x6 x7 x8 x9 x10 : Option V) (tp p : Addr) (a : Nat → Addr) (v0 v1 v2 : V) (H1 : Hp), H1 tp = some (.lst [v0, v1, v2]) → H1 p = some (.lst (el a)) → Errs H1 c v0 v1 v2 a →
        (∀ y8 y9 H2, Ext H1 H2 → D.nx [x0, x1, x2, some (.ref tp), some (.ref p), x5, x6, x7, y8, y9, x10] H2) → t D [x0, x1, x2, some (.ref tp), some (.ref p), x5, x6, x7, x8, x9, x10] H1 := by
  have nd := scLaw.nd
  obtain ⟨t5, h5, rd5⟩ := end5 (P := P) (w := w) (base := base) (f := f) (cdv := cdv) (A := A) (outer := outer) (s := s) (H := H) (E := E) T L G_classes F_classes b_classes m_classes hr
  have g_PlanError := L.g_PlanError
  refine ⟨_, (pss_cons (ps_for PassesOwn.never rfl (pi_enum (by rfl) T.enumerate (pa_cons (pv 4) pa_nil)) (pg_tup (by rfl) (pgs_cons (pg_name (i := 8) nd rfl (Or.inr rfl)) (pgs_cons (pg_name (i := 9) nd rfl (Or.inl rfl)) pgs_nil))) (pss_cons (ps_if (pt_cmpR (op_neD hr.units) (pe_call G_classes (hr.mono (by decide)) (by rfl) m_classes F_classes.kp b_classes .nil pass0 (pa_cons (pv 9) pa_nil)) (pe_lc (own := [("_law_k", 10)]) (g := gName 10) (tt := tYes) rfl nd (pi_range1 rfl T.range (pa_cons pe_int pa_nil)) (blkOk_by (N := ["_law_script", "_law_bag_here", "_law_turn", "_law_things", "_law_some", "_law_again", "_law_due", "_law_thing_here", "_law_at", "_law_e", "_law_k"]) (sc := defScope s_law) (by decide +kernel)) (fun _ _ _ _ _ => (pg_name (i := 10) nd rfl (Or.inl rfl))) (fun _ _ _ _ _ => pts_nil) (fun _ _ _ _ _ => (pe_cmpR op_eq (pv 10) (pv 8) (nomark _)))) (nomark _)) (pss_one (ps_ret pe_bl)) pss_nil) (pss_one (ps_if (PW.pt (pw_or (pt_not (pt_val (pe_callB call_isErr (by rfl) T.isinstance (by decide +kernel) (pa_cons (pv 9) (pa_cons (pe_glob rfl g_PlanError (v := .ref cP) rfl) pa_nil))))) (pw_or1 (pt_not (pt_val (pe_callB call_isErr (by rfl) T.isinstance (by decide +kernel) (pa_cons (pv 9) (pa_cons (pe_bltn (v := .ty "ValueError") (by rfl) T.ValueError (by decide +kernel) rfl) pa_nil)))))))) (pss_one (ps_ret pe_bl)) pss_nil)))) h5), ?_⟩
  intro D x0 x1 x2 x5 x6 x7 x8 x9 x10 tp p a v0 v1 v2 H1 htp hp es k
  refine ⟨_, rfl, p, _, rfl, .inl (.inl hp), ?_⟩
  refine for_it walk_enum (fun i σ H3 => (∃ y8 y9, σ = [x0, x1, x2, some (.ref tp), some (.ref p), x5, x6, x7, y8, y9, x10]) ∧ Ext H1 H3) ⟨⟨_, _, rfl⟩, Ext.refl _⟩ (fun i σ H3 _ h => .inl (.inl (h.2 _ _ hp))) ?_ ?_
  · rintro i v σ H3 H4 hi ⟨⟨y8, y9, rfl⟩, ex⟩ ⟨T1, u1, u2, rfl, nT, rfl, e1, e2⟩
    cases e1
    obtain ⟨i28, rfl⟩ := el_at a e2
    refine ⟨T1, _, rfl, .inl (.inl upd_same), rfl, _, _, rfl, _, _, rfl, rfl, ?_⟩
    have ex1 := ex.new (o := .tup [.int (i : Nat), .ref (a i)]) nT
    generalize upd H3 T1 (.tup [.int (i : Nat), .ref (a i)]) = H5 at ex1
    have at5 := ((es.of i i28).ext ex1)
    refine ⟨_, rfl, a i, c i, fun j => j == i, rfl, .inl ⟨_, at5⟩, L.cc i i28, L.row i i28, fun p1 H6 np1 e6 hp1 => ?_⟩
    refine ⟨28, rfl, by decide, by decide, fun q nq => ?_⟩
    have np1q : p1 ≠ q := ne_of_none hp1 nq
    refine lc_range (lo := 0) (n := (28 : Int).toNat) (fun j H7 => H7 = upd H6 q (.lst ((List.range j).map fun m => .bl (m == i)))) rfl ?_ ?_
    · rintro j H7 hj rfl
      refine ⟨rfl, _, rfl, _, rfl, rfl, _, upd_same, ?_, ?_⟩
      · rw [List.length_map, List.length_range]
        exact small1000 (by omega)
      · rw [upd_upd, List.range_succ, List.map_append]
        have e : decide (V.int (0 + (j : Int)) = V.int (i : Nat)) = (j == i) := by
          rw [dec_int, Bool.eq_iff_iff, beq_iff_eq, beq_iff_eq]
          omega
        show upd H6 q (.lst (_ ++ [V.bl (decide (V.int (0 + (j : Int)) = V.int (i : Nat)))])) = _
        rw [e]
        rfl
    · rintro H7 rfl
      have ex7 : Ext H6 (upd H6 q (.lst ((List.range 28).map fun m => .bl (m == i)))) := (Ext.refl H6).new nq
      have h1 := ex7 _ _ hp1
      have h2 : (upd H6 q (.lst ((List.range 28).map fun m => .bl (m == i)))) q = _ := upd_same
      have e3 : ((List.range 28).map fun m => V.bl (m == i)) = ((List.range 28).map fun m => (m == i)).map V.bl := by rw [List.map_map]; rfl
      rw [e3] at h1 h2
      obtain ⟨b1, b2, b3, b4, b5⟩ := bl_flat ((List.range 28).map fun m => (m == i))
      have sh : SeqAt.shaped (.list (((List.range 28).map fun m => (m == i)).map PyData.bool)) = true := by
        simp only [SeqAt.shaped, PyData.canLay0, PyData.depth, b5, b2]
        rfl
      refine ⟨_, _, .lst (.inl (.inl h1)) (bdp _), .lst (.inl (.inl h2)) (bdp _), sh, sh, _, rfl, ?_⟩
      rw [SeqAt.eqv_refl _ (SeqAt.canLay_of_shaped sh)]
      have at7 := (at5.ext e6).ext ex7
      refine iteF ⟨_, rfl, a i, c i, .ref cP, _, true, rfl, .inl ⟨_, at7⟩, L.cc i i28, .own _, L.pl i i28, _, rfl, iteF ?_⟩
      refine ⟨_, rfl, a i, c i, .ty "ValueError", _, true, rfl, .inl ⟨_, at7⟩, L.cc i i28, .ty _, L.ve i i28, _, rfl, iteF ?_⟩
      exact ⟨⟨_, _, rfl⟩, (ex1.trans e6).trans ex7⟩
  · rintro σ H3 ⟨⟨y8, y9, rfl⟩, ex⟩
    exact rd5 D _ _ _ _ _ _ _ _ _ _ tp v0 v1 v2 H3 (ex _ _ htp) fun y9 H2 e2 => k _ _ _ (ex.trans e2)
end
end AL
namespace AL
open PySem PySem.Spec PyProof.Rows L2
def sNone : Stmt := .Pass ⟨0, 0, 0, 0⟩
theorem kl_NoneType : kitB "NoneType" "list" = some false := by decide +kernel
theorem kl_bool : kitB "bool" "list" = some false := by decide +kernel
theorem kl_int : kitB "int" "list" = some false := by decide +kernel
theorem kl_str : kitB "str" "list" = some false := by decide +kernel
theorem kl_tuple : kitB "tuple" "list" = some false := by decide +kernel
theorem kl_list : kitB "list" "list" = some true := by decide +kernel
theorem kl_dict : kitB "dict" "list" = some false := by decide +kernel
theorem kd_NoneType : kitB "NoneType" "dict" = some false := by decide +kernel
theorem kd_bool : kitB "bool" "dict" = some false := by decide +kernel
theorem kd_int : kitB "int" "dict" = some false := by decide +kernel
theorem kd_str : kitB "str" "dict" = some false := by decide +kernel
theorem kd_tuple : kitB "tuple" "dict" = some false := by decide +kernel
theorem kd_list : kitB "list" "dict" = some false := by decide +kernel
theorem kd_dict : kitB "dict" "dict" = some true := by decide +kernel
section
variable {P : Program} {w : World} {K : PySem.W.Frag} {mg : Str → Option Value} {base : Heap} {c : Nat → Addr} {cP f_classes : Addr} {fd_classes : FuncData}
    {f : Addr} {cdv : Value} {A : Around} {outer : List Env} {s : Shared} {H : Hp} {E : XK}
/-- what the inner loop's turn does to a thing -/
theorem grow (T : Blt mg) (hr : Room 3 (A.deeper (envOfC "law" (defScope s_law) s.heap.objs.size f cdv))) :
    ∃ t, PSs (cxOf CX0 P w K mg base nLaw "law" (defScope s_law) f cdv A outer s H E).nox (forBody ((forBody (fb.getD 2 sNone)).getD 2 sNone)) t ∧
      ∀ (D : Ends) (x0 x1 x2 x3 x4 x5 x6 x8 x9 x10 : Option V) (v : V) (k : Nat) (F : List Addr) (H1 : Hp), k ≤ 50 → TW k H1 v F →
        (∀ H2, TW (k + 1) H2 v F → (∀ x, x ∉ F → H2 x = H1 x) → D.nx [x0, x1, x2, x3, x4, x5, x6, some v, x8, x9, x10] H2) → t D [x0, x1, x2, x3, x4, x5, x6, some v, x8, x9, x10] H1 := by
  have nd := scLaw.nd
  refine ⟨_, (pss_cons (ps_if (pt_val (pe_callB call_isi (by rfl) T.isinstance (by decide +kernel) (pa_cons (pv 7) (pa_cons (pe_bltn (v := .ty "list") (by rfl) T.list (by decide +kernel) rfl) pa_nil)))) (pss_one (ps_expr (pe_bm PySem.F.plainAttrs_list PySem.F.slot_list_append PySem.F.type_list_append mt_append (pv 7) (pa_cons pe_str pa_nil)))) pss_nil) (pss_one (ps_if (pt_val (pe_callB call_isi (by rfl) T.isinstance (by decide +kernel) (pa_cons (pv 7) (pa_cons (pe_bltn (v := .ty "dict") (by rfl) T.dict (by decide +kernel) rfl) pa_nil)))) (pss_one (ps_dput (hu_of hr) (pv 7) pe_str pe_int rfl)) pss_nil))), ?_⟩
  intro D x0 x1 x2 x3 x4 x5 x6 x8 x9 x10 v k F H1 hk t kk
  have same : TW (k + 1) H1 v F → D.nx [x0, x1, x2, x3, x4, x5, x6, some v, x8, x9, x10] H1 := fun t => kk H1 t fun _ _ => rfl
  cases t with
  | non => exact ⟨_, rfl, _, _, _, _, _, rfl, .ty _, .base .non, kit_ty kl_NoneType, _, rfl, iteF ⟨_, rfl, _, _, _, _, _, rfl, .ty _, .base .non, kit_ty kd_NoneType, _, rfl, iteF (same .non)⟩⟩
  | bl b => exact ⟨_, rfl, _, _, _, _, _, rfl, .ty _, .base (.bl b), kit_ty kl_bool, _, rfl, iteF ⟨_, rfl, _, _, _, _, _, rfl, .ty _, .base (.bl b), kit_ty kd_bool, _, rfl, iteF (same (.bl b))⟩⟩
  | int i z => exact ⟨_, rfl, _, _, _, _, _, rfl, .ty _, .base (.int i), kit_ty kl_int, _, rfl, iteF ⟨_, rfl, _, _, _, _, _, rfl, .ty _, .base (.int i), kit_ty kd_int, _, rfl, iteF (same (.int i z))⟩⟩
  | str x z => exact ⟨_, rfl, _, _, _, _, _, rfl, .ty _, .base (.str x), kit_ty kl_str, _, rfl, iteF ⟨_, rfl, _, _, _, _, _, rfl, .ty _, .base (.str x), kit_ty kd_str, _, rfl, iteF (same (.str x z))⟩⟩
  | tupT a b x y => exact ⟨_, rfl, _, _, _, _, _, rfl, .ty _, .base (.tup x), kit_ty kl_tuple, _, rfl, iteF ⟨_, rfl, _, _, _, _, _, rfl, .ty _, .base (.tup x), kit_ty kd_tuple, _, rfl, iteF (same (.tupT a b x y))⟩⟩
  | lstL a b n hn x y ne =>
    refine ⟨_, rfl, _, _, _, _, _, rfl, .ty _, .base (.lst x), kit_ty kl_list, _, rfl, iteT ?_⟩
    refine ⟨_, rfl, .inl ⟨rfl, _, .inl (.inl x)⟩, a, _, _, rfl, rfl, x, ?_, ?_⟩
    · rw [List.length_cons, List.length_cons, List.length_replicate]
      exact small1000 (by omega)
    · have x' : (upd H1 a (.lst ((.int 3 :: .ref b :: List.replicate n (.str "new")) ++ [.str "new"]))) a = _ := upd_same
      refine ⟨_, rfl, _, _, _, _, _, rfl, .ty _, .base (.lst x'), kit_ty kd_list, _, rfl, iteF ?_⟩
      refine kk _ (.lstL a b (n + 1) (by omega) ?_ (by rw [upd_ne ne.symm]; exact y) ne) fun z hz => upd_ne (fun e => hz (by rw [e]; simp))
      rw [upd_same, List.replicate_succ']
      rfl
  | lstS a xs hn x tt =>
    refine ⟨_, rfl, _, _, _, _, _, rfl, .ty _, .base (.lst x), kit_ty kl_list, _, rfl, iteT ?_⟩
    refine ⟨_, rfl, .inl ⟨rfl, _, .inl (.inl x)⟩, a, _, _, rfl, rfl, x, ?_, ?_⟩
    · rw [List.length_map]
      exact small1000 (by omega)
    · have x' : (upd H1 a (.lst (xs.map V.str ++ [.str "new"]))) a = _ := upd_same
      refine ⟨_, rfl, _, _, _, _, _, rfl, .ty _, .base (.lst x'), kit_ty kd_list, _, rfl, iteF ?_⟩
      refine kk _ (.lstS a (xs ++ [Str.ofString "new"]) (by rw [List.length_append]; exact Nat.succ_le_succ hn) ?_ ?_) fun z hz => upd_ne (fun e => hz (by rw [e]; simp))
      · rw [upd_same, List.map_append]
        rfl
      · intro z hz
        rcases List.mem_append.mp hz with h | h
        · exact tt z h
        · rw [List.mem_singleton.mp h]
          exact tx_new
  | dct a kvs x q =>
    refine ⟨_, rfl, _, _, _, _, _, rfl, .ty _, .base (.dK x), kit_ty kl_dict, _, rfl, iteF ?_⟩
    refine ⟨_, rfl, _, _, _, _, _, rfl, .ty _, .base (.dK x), kit_ty kd_dict, _, rfl, iteT ?_⟩
    have hl : kvs.length < sizeLine := by rcases q with rfl | rfl <;> exact small1000 (by decide)
    refine ⟨_, rfl, a, _, rfl, DPut.k (k := Sum.inr "b") x hl, ?_⟩
    refine kk _ (.dct a _ upd_same ?_) fun z hz => upd_ne (fun e => hz (by rw [e]; simp))
    rcases q with rfl | rfl
    · right
      decide +kernel
    · right
      decide +kernel
end
end AL
namespace AL
open PySem PySem.Spec PyProof.Rows L2
/-- the three things, apart from one another and from what else is kept -/
structure Three (F0 F1 F2 : List Addr) (tp p b l : Addr) : Prop where
  d01 : ∀ x ∈ F0, x ∉ F1
  d02 : ∀ x ∈ F0, x ∉ F2
  d12 : ∀ x ∈ F1, x ∉ F2
  out : ∀ x, x ∈ F0 ∨ x ∈ F1 ∨ x ∈ F2 → x ≠ tp ∧ x ≠ p ∧ x ≠ b ∧ x ≠ l
structure Hold (c a : Nat → Addr) (v0 v1 v2 : V) (F0 F1 F2 : List Addr) (tp p b l : Addr) (k0 k1 k2 : Nat) (H : Hp) : Prop where
  t : H tp = some (.lst [v0, v1, v2])
  e : H p = some (.lst (el a))
  er : Errs H c v0 v1 v2 a
  bg : BagS H b l
  w0 : TW k0 H v0 F0
  w1 : TW k1 H v1 F1
  w2 : TW k2 H v2 F2
theorem TW.ext {k : Nat} {H H' : Hp} {v : V} {F : List Addr} (t : TW k H v F) (e : Ext H H') : TW k H' v F := t.to fun a _ o h => e a o h
section
variable {c a : Nat → Addr} {v0 v1 v2 : V} {F0 F1 F2 : List Addr} {tp p b l : Addr} {k0 k1 k2 : Nat} {H H' : Hp}
theorem Hold.ext (h : Hold c a v0 v1 v2 F0 F1 F2 tp p b l k0 k1 k2 H) (e : Ext H H') : Hold c a v0 v1 v2 F0 F1 F2 tp p b l k0 k1 k2 H' :=
  ⟨e _ _ h.t, e _ _ h.e, h.er.ext e, h.bg.ext e, h.w0.ext e, h.w1.ext e, h.w2.ext e⟩
/-- a thing has grown: what does not stand on its objects stays -/
theorem ErrAt.off {F : List Addr} {x C : Addr} {fs : List (Str × V)} (hF : ∀ z ∈ F, ∃ o, H z = some o ∧ ∀ φ, o ≠ .ext φ) (s : ∀ z, z ∉ F → H' z = H z) : ErrAt H x C fs → ErrAt H' x C fs := by
  have nx : ∀ {z : Addr} {φ : Heap → Prop}, H z = some (.ext φ) → z ∉ F := fun {z φ} h hz => by
    obtain ⟨o, ho, hn⟩ := hF z hz
    rw [h] at ho
    exact hn φ (Option.some.inj ho).symm
  rintro (⟨h, k⟩ | ⟨d, h, k⟩)
  · exact .inl ⟨h, by rw [s _ (nx k)]; exact k⟩
  · exact .inr ⟨d, by rw [s _ (nx h)]; exact h, by rw [s _ (nx k)]; exact k⟩
theorem Errs.off {F : List Addr} (hF : ∀ z ∈ F, ∃ o, H z = some o ∧ ∀ φ, o ≠ .ext φ) (s : ∀ z, z ∉ F → H' z = H z) (h : Errs H c v0 v1 v2 a) : Errs H' c v0 v1 v2 a :=
  ⟨h.e0.off hF s, h.e1.off hF s, h.e2.off hF s, h.e3.off hF s, h.e4.off hF s, h.e5.off hF s, h.e6.off hF s, h.e7.off hF s, h.e8.off hF s, h.e9.off hF s, h.e10.off hF s, h.e11.off hF s, h.e12.off hF s, h.e13.off hF s, h.e14.off hF s, h.e15.off hF s, h.e16.off hF s, h.e17.off hF s, h.e18.off hF s, h.e19.off hF s, h.e20.off hF s, h.e21.off hF s, h.e22.off hF s, h.e23.off hF s, h.e24.off hF s, h.e25.off hF s, h.e26.off hF s, h.e27.off hF s⟩
theorem BagS.off {F : List Addr} (s : ∀ z, z ∉ F → H' z = H z) (n1 : b ∉ F) (n2 : l ∉ F) : BagS H b l → BagS H' b l
  | ⟨c, sd, i, ns, B⟩ => ⟨c, sd, i, ns, by rw [s _ n1]; exact B.hb, by rw [s _ n2]; exact B.hl, B.nz, B.c0, B.s0, B.s1⟩
theorem Hold.g0 (T : Three F0 F1 F2 tp p b l) (h : Hold c a v0 v1 v2 F0 F1 F2 tp p b l k0 k1 k2 H) {k : Nat} (t : TW k H' v0 F0) (s : ∀ z, z ∉ F0 → H' z = H z) : Hold c a v0 v1 v2 F0 F1 F2 tp p b l k k1 k2 H' := by
  have o : ∀ x, x ∈ F0 → x ≠ tp ∧ x ≠ p ∧ x ≠ b ∧ x ≠ l := fun x hx => T.out x (.inl hx)
  exact ⟨by rw [s _ fun z => (o _ z).1 rfl]; exact h.t, by rw [s _ fun z => (o _ z).2.1 rfl]; exact h.e, h.er.off h.w0.kind s, h.bg.off s (fun z => (o _ z).2.2.1 rfl) (fun z => (o _ z).2.2.2 rfl), t,
    h.w1.to fun x hx o' ho => by rw [s _ fun z => T.d01 x z hx]; exact ho, h.w2.to fun x hx o' ho => by rw [s _ fun z => T.d02 x z hx]; exact ho⟩
theorem Hold.g1 (T : Three F0 F1 F2 tp p b l) (h : Hold c a v0 v1 v2 F0 F1 F2 tp p b l k0 k1 k2 H) {k : Nat} (t : TW k H' v1 F1) (s : ∀ z, z ∉ F1 → H' z = H z) : Hold c a v0 v1 v2 F0 F1 F2 tp p b l k0 k k2 H' := by
  have o : ∀ x, x ∈ F1 → x ≠ tp ∧ x ≠ p ∧ x ≠ b ∧ x ≠ l := fun x hx => T.out x (.inr (.inl hx))
  exact ⟨by rw [s _ fun z => (o _ z).1 rfl]; exact h.t, by rw [s _ fun z => (o _ z).2.1 rfl]; exact h.e, h.er.off h.w1.kind s, h.bg.off s (fun z => (o _ z).2.2.1 rfl) (fun z => (o _ z).2.2.2 rfl),
    h.w0.to fun x hx o' ho => by rw [s _ fun z => T.d01 x hx z]; exact ho, t, h.w2.to fun x hx o' ho => by rw [s _ fun z => T.d12 x z hx]; exact ho⟩
theorem Hold.g2 (T : Three F0 F1 F2 tp p b l) (h : Hold c a v0 v1 v2 F0 F1 F2 tp p b l k0 k1 k2 H) {k : Nat} (t : TW k H' v2 F2) (s : ∀ z, z ∉ F2 → H' z = H z) : Hold c a v0 v1 v2 F0 F1 F2 tp p b l k0 k1 k H' := by
  have o : ∀ x, x ∈ F2 → x ≠ tp ∧ x ≠ p ∧ x ≠ b ∧ x ≠ l := fun x hx => T.out x (.inr (.inr hx))
  exact ⟨by rw [s _ fun z => (o _ z).1 rfl]; exact h.t, by rw [s _ fun z => (o _ z).2.1 rfl]; exact h.e, h.er.off h.w2.kind s, h.bg.off s (fun z => (o _ z).2.2.1 rfl) (fun z => (o _ z).2.2.2 rfl),
    h.w0.to fun x hx o' ho => by rw [s _ fun z => T.d02 x hx z]; exact ho, h.w1.to fun x hx o' ho => by rw [s _ fun z => T.d12 x hx z]; exact ho, t⟩
end
/-! the two lists of what the errors keep -/
theorem rep_dda {K : PySem.W.Frag} {H : Hp} {v : V} {d : PyData} (h : Dd K H v d) : ∀ n, DdA K H (List.replicate n v) (List.replicate n d)
  | 0 => .nil
  | n + 1 => .cons h (rep_dda h n)
theorem rep_sm {d : PyData} {m : Nat} (h : SmD m d) : ∀ n, PyData.showableAll (List.replicate n d) = true ∧ PyData.depthAll (List.replicate n d) ≤ 3 ∧ PyData.leavesShortAll 1950 (List.replicate n d) = true ∧ PyData.weightAll (List.replicate n d) ≤ n * (m + 1)
  | 0 => ⟨rfl, Nat.zero_le _, rfl, by simp [PyData.weightAll]⟩
  | n + 1 => by
    obtain ⟨h1, h2, h3, h4⟩ := rep_sm h n
    obtain ⟨g1, g2, g3, g4⟩ := h
    refine ⟨?_, ?_, ?_, ?_⟩
    · simp only [List.replicate_succ, PyData.showableAll, g1, h1, Bool.and_true]
    · simp only [List.replicate_succ, PyData.depthAll]
      omega
    · simp only [List.replicate_succ, PyData.leavesShortAll, g3, h3, Bool.and_true]
    · have e : (n + 1) * (m + 1) = n * (m + 1) + (m + 1) := Nat.succ_mul n (m + 1)
      simp only [List.replicate_succ, PyData.weightAll]
      omega
theorem same_eqv {K : PySem.W.Frag} {H : Hp} {k : Nat} {v : V} {F : List Addr} (t : TW k H v F) (n : Nat) : EqV K H (n + 1) v v := by
  cases t with
  | non => exact .inl ⟨rfl, rfl⟩
  | bl b => exact .inl ⟨rfl, rfl⟩
  | int i h => exact .inl ⟨rfl, rfl⟩
  | str x h => exact .inl ⟨rfl, rfl⟩
  | tupT a b _ _ => exact .inr (.inl ⟨a, rfl, rfl⟩)
  | lstL a b _ _ _ _ _ => exact .inr (.inl ⟨a, rfl, rfl⟩)
  | lstS a _ _ _ _ => exact .inr (.inl ⟨a, rfl, rfl⟩)
  | dct a _ _ _ => exact .inr (.inl ⟨a, rfl, rfl⟩)
theorem rep_paired {E : V → V → Prop} {v : V} (h : E v v) : ∀ n, Paired E (List.replicate n v) (List.replicate n v)
  | 0 => .nil
  | n + 1 => .cons h (rep_paired h n)
theorem kept_alike {K : PySem.W.Frag} {H : Hp} {k0 k1 k2 : Nat} {v0 v1 v2 : V} {F0 F1 F2 : List Addr} {q q1 q2 q3 r r1 r2 r3 : Addr} (t0 : TW k0 H v0 F0) (t1 : TW k1 H v1 F1) (t2 : TW k2 H v2 F2) (hk : k0 ≤ 10 ∧ k1 ≤ 10 ∧ k2 ≤ 10)
    (hq : H q = some (.lst [.ref q1, .ref q2, .ref q3])) (h1 : H q1 = some (.lst (List.replicate 21 v0))) (h2 : H q2 = some (.lst (List.replicate 5 v1))) (h3 : H q3 = some (.lst (List.replicate 1 v2)))
    (hr : H r = some (.lst [.ref r1, .ref r2, .ref r3])) (g1 : H r1 = some (.lst (List.replicate 21 v0))) (g2 : H r2 = some (.lst (List.replicate 5 v1))) (g3 : H r3 = some (.lst (List.replicate 1 v2))) :
    ∃ d, Dd K H (.ref q) d ∧ Dd K H (.ref r) d ∧ EqOk K H (.ref q) (.ref r) ∧ RepOk d := by
  obtain ⟨d0, a0, s0⟩ := t0.data (K := K) hk.1
  obtain ⟨d1, a1, s1⟩ := t1.data (K := K) hk.2.1
  obtain ⟨d2, a2, s2⟩ := t2.data (K := K) hk.2.2
  have row : ∀ {x x1 x2 x3 : Addr}, H x = some (.lst [.ref x1, .ref x2, .ref x3]) → H x1 = some (.lst (List.replicate 21 v0)) → H x2 = some (.lst (List.replicate 5 v1)) → H x3 = some (.lst (List.replicate 1 v2)) →
      Dd K H (.ref x) (.list [.list (List.replicate 21 d0), .list (List.replicate 5 d1), .list (List.replicate 1 d2)]) := fun hx e1 e2 e3 =>
    .lst (.inl (.inl hx)) (.cons (.lst (.inl (.inl e1)) (rep_dda a0 21)) (.cons (.lst (.inl (.inl e2)) (rep_dda a1 5)) (.cons (.lst (.inl (.inl e3)) (rep_dda a2 1)) .nil)))
  refine ⟨_, row hq h1 h2 h3, row hr g1 g2 g3, .inr ⟨4, by decide, .inl ⟨q, r, _, _, rfl, rfl, .inl (.inl hq), .inl (.inl hr), ?_⟩⟩, ?_⟩
  · refine .cons (.inr (.inr (.inl ⟨q1, r1, _, _, rfl, rfl, .inl (.inl h1), .inl (.inl g1), rep_paired (same_eqv t0 2) 21⟩))) (.cons (.inr (.inr (.inl ⟨q2, r2, _, _, rfl, rfl, .inl (.inl h2), .inl (.inl g2), rep_paired (same_eqv t1 2) 5⟩)))
      (.cons (.inr (.inr (.inl ⟨q3, r3, _, _, rfl, rfl, .inl (.inl h3), .inl (.inl g3), rep_paired (same_eqv t2 2) 1⟩))) .nil))
  · obtain ⟨b1, b2, b3, b4⟩ := rep_sm s0 21
    obtain ⟨c1, c2, c3, c4⟩ := rep_sm s1 5
    obtain ⟨e1, e2, e3, e4⟩ := rep_sm s2 1
    refine repOk_of ?_ ?_ ?_ ?_
    · simp only [PyData.showable, PyData.showableAll, b1, c1, e1, Bool.and_true]
    · simp only [PyData.depth, PyData.depthAll]
      omega
    · simp only [PyData.leavesShort, PyData.leavesShortAll, b3, c3, e3, Bool.and_true]
    · simp only [PyData.weight, PyData.weightAll]
      omega
end AL
namespace AL
open PySem PySem.Spec PyProof.Rows L2
section
variable {P : Program} {w : World} {K : PySem.W.Frag} {mg : Str → Option Value} {base : Heap} {c : Nat → Addr} {cP f_classes f_fields f_alike : Addr} {fd_classes fd_fields fd_alike : FuncData}
    {f : Addr} {cdv : Value} {A : Around} {outer : List Env} {s : Shared} {H : Hp} {E : XK}
/-- for again in range(2) -/
theorem end3 (T : Blt mg) (L : Clss K mg c cP) (G_classes : FnOk P w K mg base CX0 1 f_classes fd_classes ["_law_e"] (spClasses K c)) (F_classes : Fun K "_law_classes" "_law_classes" s_classes f_classes fd_classes)
    (b_classes : Binds K fd_classes ["_law_e"] []) (m_classes : mg "_law_classes" = some (.ref f_classes))
    (G_fields : FnOk P w K mg base CX0 1 f_fields fd_fields ["_law_some"] (spFields c)) (F_fields : Fun K "_law_fields" "_law_fields" s_fields f_fields fd_fields) (b_fields : Binds K fd_fields ["_law_some"] []) (m_fields : mg "_law_fields" = some (.ref f_fields))
    (G_alike : FnG P w K mg base 1 f_alike fd_alike ["_law_one", "_law_other"] (spAlike K)) (F_alike : Fun K "_law_alike" "_law_alike" sAlike f_alike fd_alike) (b_alike : Binds K fd_alike ["_law_one", "_law_other"] []) (m_alike : mg "_law_alike" = some (.ref f_alike))
    (hg : A.guards = some []) (hr : Room 3 (A.deeper (envOfC "law" (defScope s_law) s.heap.objs.size f cdv))) :
    ∃ t, PSs (cxOf CX0 P w K mg base nLaw "law" (defScope s_law) f cdv A outer s H E).nox (fb.drop 2) t ∧
      ∀ (D : Ends) (x0 x1 x2 x5 x6 x7 x8 x9 x10 : Option V) (tp p b l : Addr) (a : Nat → Addr) (v0 v1 v2 : V) (F0 F1 F2 : List Addr) (H1 : Hp), Three F0 F1 F2 tp p b l → Hold c a v0 v1 v2 F0 F1 F2 tp p b l 1 1 1 H1 →
        (∀ y5 y6 y7 y8 y9 H2, BagS H2 b l → D.nx [x0, x1, x2, some (.ref tp), some (.ref p), y5, y6, y7, y8, y9, x10] H2) → t D [x0, x1, x2, some (.ref tp), some (.ref p), x5, x6, x7, x8, x9, x10] H1 := by
  have nd := scLaw.nd
  obtain ⟨t4, h4, rd4⟩ := end4 (P := P) (w := w) (base := base) (f := f) (cdv := cdv) (A := A) (outer := outer) (s := s) (H := H) (E := E) T L G_classes F_classes b_classes m_classes hr
  obtain ⟨tg, hG, rdG⟩ := grow (P := P) (w := w) (K := K) (base := base) (f := f) (cdv := cdv) (A := A) (outer := outer) (s := s) (H := H) (E := E) T hr
  refine ⟨_, pss_cons (ps_for PassesOwn.never rfl (pi_range1 rfl T.range (pa_cons pe_int pa_nil)) (pg_name (i := 5) nd rfl (Or.inl rfl)) (pss_cons (ps_set (i := 6) nd rfl (.inl rfl) (pe_lst (pa_cons (pe_op op_rep (pe_lst (pa_cons (pe_ix ix_list (pv 3) pe_int (fun _ _ => rfl)) pa_nil)) pe_int) (pa_cons (pe_op op_rep (pe_lst (pa_cons (pe_ix ix_list (pv 3) pe_int (fun _ _ => rfl)) pa_nil)) pe_int) (pa_cons (pe_lst (pa_cons (pe_ix ix_list (pv 3) pe_int (fun _ _ => rfl)) pa_nil)) pa_nil))))) (pss_cons (ps_if (pt_not (pt_val (callG hg G_alike (hr.mono (by decide)) (by rfl) m_alike F_alike.kp b_alike (pa_cons (pe_call G_fields (hr.mono (by decide)) (by rfl) m_fields F_fields.kp b_fields .nil pass0 (pa_cons (pv 4) pa_nil)) (pa_cons (pv 6) pa_nil))))) (pss_one (ps_ret pe_bl)) pss_nil) (pss_one (ps_for PassesOwn.never rfl (pi_list (pv 3)) (pg_name (i := 7) nd rfl (Or.inl rfl)) hG))))) h4, ?_⟩
  intro D x0 x1 x2 x5 x6 x7 x8 x9 x10 tp p b l a v0 v1 v2 F0 F1 F2 H1 tri hold k
  refine ⟨2, rfl, by decide, by decide, for_range (n := 2) (fun i σ H2 => (∃ y5 y6 y7, σ = [x0, x1, x2, some (.ref tp), some (.ref p), y5, y6, y7, x8, x9, x10]) ∧ Hold c a v0 v1 v2 F0 F1 F2 tp p b l (1 + i) (1 + i) (1 + i) H2) ⟨⟨_, _, _, rfl⟩, hold⟩ ?_ ?_⟩
  · rintro i σ H2 hi ⟨⟨y5, y6, y7, rfl⟩, ho⟩
    have sq : SqL K H2 tp [v0, v1, v2] := .inl (.inl ho.t)
    refine ⟨_, rfl, tp, _, 0, _, rfl, rfl, sq, rfl, by show 1 ≤ sizeLine; decide, fun p1 n1 => ⟨p1, 21, _, rfl, rfl, upd_same, by decide, by decide, by show 21 ≤ sizeLine; decide, fun r1 m1 => ?_⟩⟩
    have z1 := ((Ext.refl H2).new (o := .lst [v0]) n1).new (o := .lst (List.replicate 21 v0)) m1
    have w1 : (upd (upd H2 p1 (.lst [v0])) r1 (.lst (List.replicate 21 v0))) r1 = _ := upd_same
    refine ⟨_, rfl, tp, _, 1, _, rfl, rfl, z1.l sq, rfl, by show 1 ≤ sizeLine; decide, fun p2 n2 => ⟨p2, 5, _, rfl, rfl, upd_same, by decide, by decide, by show 5 ≤ sizeLine; decide, fun r2 m2 => ?_⟩⟩
    have z2 := ((Ext.refl _).new (o := .lst [v1]) n2).new (o := .lst (List.replicate 5 v1)) m2
    have w2 : (upd (upd (upd (upd H2 p1 (.lst [v0])) r1 (.lst (List.replicate 21 v0))) p2 (.lst [v1])) r2 (.lst (List.replicate 5 v1))) r2 = _ := upd_same
    refine ⟨_, rfl, tp, _, 2, _, rfl, rfl, (z1.trans z2).l sq, rfl, by show 1 ≤ sizeLine; decide, fun r3 m3 => ⟨by show 3 ≤ sizeLine; decide, fun r m4 => ?_⟩⟩
    have z3 := ((Ext.refl _).new (o := .lst [v2]) m3)
    have z4 := ((Ext.refl _).new (o := .lst [.ref r1, .ref r2, .ref r3]) m4)
    have w3 : (upd (upd (upd (upd (upd (upd H2 p1 (.lst [v0])) r1 (.lst (List.replicate 21 v0))) p2 (.lst [v1])) r2 (.lst (List.replicate 5 v1))) r3 (.lst [v2])) r (.lst [.ref r1, .ref r2, .ref r3])) r3 = some (.lst (List.replicate 1 v2)) := z4 _ _ upd_same
    have w2' : (upd (upd (upd (upd (upd (upd H2 p1 (.lst [v0])) r1 (.lst (List.replicate 21 v0))) p2 (.lst [v1])) r2 (.lst (List.replicate 5 v1))) r3 (.lst [v2])) r (.lst [.ref r1, .ref r2, .ref r3])) r2 = some (.lst (List.replicate 5 v1)) := (z3.trans z4) _ _ w2
    have w1' : (upd (upd (upd (upd (upd (upd H2 p1 (.lst [v0])) r1 (.lst (List.replicate 21 v0))) p2 (.lst [v1])) r2 (.lst (List.replicate 5 v1))) r3 (.lst [v2])) r (.lst [.ref r1, .ref r2, .ref r3])) r1 = some (.lst (List.replicate 21 v0)) := ((z2.trans z3).trans z4) _ _ w1
    have zz : Ext H2 (upd (upd (upd (upd (upd (upd H2 p1 (.lst [v0])) r1 (.lst (List.replicate 21 v0))) p2 (.lst [v1])) r2 (.lst (List.replicate 5 v1))) r3 (.lst [v2])) r (.lst [.ref r1, .ref r2, .ref r3])) := ((z1.trans z2).trans z3).trans z4
    have w4 : (upd (upd (upd (upd (upd (upd H2 p1 (.lst [v0])) r1 (.lst (List.replicate 21 v0))) p2 (.lst [v1])) r2 (.lst (List.replicate 5 v1))) r3 (.lst [v2])) r (.lst [.ref r1, .ref r2, .ref r3])) r = _ := upd_same
    show tSeq _ _ _ _ (upd (upd (upd (upd (upd (upd H2 p1 (.lst [v0])) r1 (.lst (List.replicate 21 v0))) p2 (.lst [v1])) r2 (.lst (List.replicate 5 v1))) r3 (.lst [v2])) r (.lst [.ref r1, .ref r2, .ref r3]))
    generalize (upd (upd (upd (upd (upd (upd H2 p1 (.lst [v0])) r1 (.lst (List.replicate 21 v0))) p2 (.lst [v1])) r2 (.lst (List.replicate 5 v1))) r3 (.lst [v2])) r (.lst [.ref r1, .ref r2, .ref r3])) = H3 at w1' w2' w3 w4 zz
    have ho3 := ho.ext zz
    refine ⟨_, rfl, p, a, v0, v1, v2, rfl, ho3.e, ho3.er, fun q q1 q2 q3 H4 nq e4 hq g1 g2 g3 => ?_⟩
    have ho4 := ho3.ext e4
    obtain ⟨d, k1, k2, k3, k4⟩ := kept_alike (K := K) ho4.w0 ho4.w1 ho4.w2 ⟨by omega, by omega, by omega⟩ hq g1 g2 g3 (e4 _ _ w4) (e4 _ _ w1') (e4 _ _ w2') (e4 _ _ w3)
    refine ⟨_, rfl, .ref q, .ref r, d, rfl, k1, k2, k3, k4, _, rfl, iteF ?_⟩
    refine ⟨_, rfl, tp, rfl, ⟨_, .inl (.inl ho4.t)⟩, for_list (K := K) (a := tp) (xs := [v0, v1, v2]) (fun j σ H5 => (∃ y7, σ = [x0, x1, x2, some (.ref tp), some (.ref p), some (.int (0 + (i : Int))), some (.ref r), y7, x8, x9, x10]) ∧
      Hold c a v0 v1 v2 F0 F1 F2 tp p b l (if 0 < j then 1 + i + 1 else 1 + i) (if 1 < j then 1 + i + 1 else 1 + i) (if 2 < j then 1 + i + 1 else 1 + i) H5) ⟨⟨_, rfl⟩, ho4⟩ (fun j σ H5 _ h => .inl (.inl h.2.t)) ?_ ?_⟩
    · rintro j v σ H5 hj ⟨⟨y7, rfl⟩, ho5⟩
      match j, hj, ho5 with
      | 0, hj, ho5 =>
        cases hj
        exact rdG _ _ _ _ _ _ _ _ _ _ _ v0 (1 + i) F0 H5 (by omega) ho5.w0 fun H6 t6 s6 => ⟨⟨_, rfl⟩, ho5.g0 tri t6 s6⟩
      | 1, hj, ho5 =>
        cases hj
        exact rdG _ _ _ _ _ _ _ _ _ _ _ v1 (1 + i) F1 H5 (by omega) ho5.w1 fun H6 t6 s6 => ⟨⟨_, rfl⟩, ho5.g1 tri t6 s6⟩
      | 2, hj, ho5 =>
        cases hj
        exact rdG _ _ _ _ _ _ _ _ _ _ _ v2 (1 + i) F2 H5 (by omega) ho5.w2 fun H6 t6 s6 => ⟨⟨_, rfl⟩, ho5.g2 tri t6 s6⟩
      | n + 3, hj, ho5 => cases hj
    · rintro σ H5 ⟨⟨y7, rfl⟩, ho5⟩
      exact ⟨⟨_, _, _, rfl⟩, ho5⟩
  · rintro σ H2 ⟨⟨y5, y6, y7, rfl⟩, ho⟩
    exact rd4 D _ _ _ _ _ _ _ _ _ tp p a v0 v1 v2 H2 ho.t ho.e ho.er fun y8 y9 H3 e3 => k _ _ _ _ _ _ (ho.bg.ext e3)
end
end AL
namespace AL
open PySem PySem.Spec PyProof.Rows L2
def spLaw (K : PySem.W.Frag) : Sp := fun vs H Q _ => ∃ (a : Addr) (ns : List Int), vs = [.ref a] ∧ SqL K H a (ns.map V.int) ∧ ns.length ≤ 63 ∧ ∀ H', Q (.bl true) H'
section
variable {P : Program} {w : World} {K : PySem.W.Frag} {mg : Str → Option Value} {base : Heap} {c : Nat → Addr} {cP : Addr}
theorem ok_law {f f_bag f_take f_alike f_thing f_errors f_classes f_fields : Addr} {fd fd_bag fd_take fd_alike fd_thing fd_errors fd_classes fd_fields : FuncData} (F : Fun K "law" "law" s_law f fd) (T : Blt mg) (sm : SM base) (L : Clss K mg c cP)
    (F_bag : Fun K "_law_bag" "_law_bag" sBag f_bag fd_bag) (b_bag : Binds K fd_bag ["_law_script"] []) (m_bag : mg "_law_bag" = some (.ref f_bag))
    (F_take : Fun K "_law_take" "_law_take" sTake f_take fd_take) (b_take : Binds K fd_take ["_law_bag_here", "_law_most"] []) (m_take : mg "_law_take" = some (.ref f_take))
    (F_alike : Fun K "_law_alike" "_law_alike" sAlike f_alike fd_alike) (b_alike : Binds K fd_alike ["_law_one", "_law_other"] []) (m_alike : mg "_law_alike" = some (.ref f_alike))
    (F_thing : Fun K "_law_thing" "_law_thing" s_thing f_thing fd_thing) (b_thing : Binds K fd_thing ["_law_bag_here"] []) (m_thing : mg "_law_thing" = some (.ref f_thing))
    (F_errors : Fun K "_law_errors" "_law_errors" s_errors f_errors fd_errors) (b_errors : Binds K fd_errors ["_law_one", "_law_two", "_law_three"] []) (m_errors : mg "_law_errors" = some (.ref f_errors))
    (F_classes : Fun K "_law_classes" "_law_classes" s_classes f_classes fd_classes) (b_classes : Binds K fd_classes ["_law_e"] []) (m_classes : mg "_law_classes" = some (.ref f_classes))
    (F_fields : Fun K "_law_fields" "_law_fields" s_fields f_fields fd_fields) (b_fields : Binds K fd_fields ["_law_some"] []) (m_fields : mg "_law_fields" = some (.ref f_fields))
    {i_Parted : Addr} {fd_Parted : FuncData} (M_Parted : ErrM P w K mg base "Parted" (c 0) i_Parted fd_Parted ["stream", "index", "word"]) {i_Ringed : Addr} {fd_Ringed : FuncData} (M_Ringed : ErrM P w K mg base "Ringed" (c 1) i_Ringed fd_Ringed ["table", "column"]) {i_BadRow : Addr} {fd_BadRow : FuncData} (M_BadRow : ErrM P w K mg base "BadRow" (c 2) i_BadRow fd_BadRow ["table", "at"]) {i_Hidden : Addr} {fd_Hidden : FuncData} (M_Hidden : ErrM P w K mg base "Hidden" (c 3) i_Hidden fd_Hidden ["place", "loop"]) {i_NoSite : Addr} {fd_NoSite : FuncData} (M_NoSite : ErrM P w K mg base "NoSite" (c 4) i_NoSite fd_NoSite ["stream", "index"]) {i_Wrong : Addr} {fd_Wrong : FuncData} (M_Wrong : ErrM P w K mg base "Wrong" (c 5) i_Wrong fd_Wrong ["place"]) {i_BadKey : Addr} {fd_BadKey : FuncData} (M_BadKey : ErrM P w K mg base "BadKey" (c 6) i_BadKey fd_BadKey ["table"]) {i_BadReference : Addr} {fd_BadReference : FuncData} (M_BadReference : ErrM P w K mg base "BadReference" (c 7) i_BadReference fd_BadReference ["at"]) {i_BadMade : Addr} {fd_BadMade : FuncData} (M_BadMade : ErrM P w K mg base "BadMade" (c 8) i_BadMade fd_BadMade ["at"]) {i_Unknown : Addr} {fd_Unknown : FuncData} (M_Unknown : ErrM P w K mg base "Unknown" (c 9) i_Unknown fd_Unknown ["name"]) {i_NotFixed : Addr} {fd_NotFixed : FuncData} (M_NotFixed : ErrM P w K mg base "NotFixed" (c 10) i_NotFixed fd_NotFixed ["name"]) {i_Missing : Addr} {fd_Missing : FuncData} (M_Missing : ErrM P w K mg base "Missing" (c 11) i_Missing fd_Missing ["name"]) {i_BadItem : Addr} {fd_BadItem : FuncData} (M_BadItem : ErrM P w K mg base "BadItem" (c 12) i_BadItem fd_BadItem ["at"]) {i_BadShown : Addr} {fd_BadShown : FuncData} (M_BadShown : ErrM P w K mg base "BadShown" (c 13) i_BadShown fd_BadShown ["at"]) {i_BadMark : Addr} {fd_BadMark : FuncData} (M_BadMark : ErrM P w K mg base "BadMark" (c 14) i_BadMark fd_BadMark ["name"]) {i_Loose : Addr} {fd_Loose : FuncData} (M_Loose : ErrM P w K mg base "Loose" (c 15) i_Loose fd_Loose ["at"]) {i_NoNumber : Addr} {fd_NoNumber : FuncData} (M_NoNumber : ErrM P w K mg base "NoNumber" (c 16) i_NoNumber fd_NoNumber ["number"]) {i_Twice : Addr} {fd_Twice : FuncData} (M_Twice : ErrM P w K mg base "Twice" (c 17) i_Twice fd_Twice ["table"]) {i_TooMany : Addr} {fd_TooMany : FuncData} (M_TooMany : ErrM P w K mg base "TooMany" (c 18) i_TooMany fd_TooMany ["limit"]) {i_Full : Addr} {fd_Full : FuncData} (M_Full : ErrM P w K mg base "Full" (c 19) i_Full fd_Full ["limit"]) {i_NoEntry : Addr} {fd_NoEntry : FuncData} (M_NoEntry : ErrM P w K mg base "NoEntry" (c 20) i_NoEntry fd_NoEntry ["many"]) {i_NoUse : Addr} {fd_NoUse : FuncData} (M_NoUse : ErrM P w K mg base "NoUse" (c 21) i_NoUse fd_NoUse []) {i_Unlike : Addr} {fd_Unlike : FuncData} (M_Unlike : ErrM P w K mg base "Unlike" (c 22) i_Unlike fd_Unlike []) {i_NoMove : Addr} {fd_NoMove : FuncData} (M_NoMove : ErrM P w K mg base "NoMove" (c 23) i_NoMove fd_NoMove []) {i_Unfit : Addr} {fd_Unfit : FuncData} (M_Unfit : ErrM P w K mg base "Unfit" (c 24) i_Unfit fd_Unfit []) {i_Nothing : Addr} {fd_Nothing : FuncData} (M_Nothing : ErrM P w K mg base "Nothing" (c 25) i_Nothing fd_Nothing []) {i_NoText : Addr} {fd_NoText : FuncData} (M_NoText : ErrM P w K mg base "NoText" (c 26) i_NoText fd_NoText []) {i_NoCommand : Addr} {fd_NoCommand : FuncData} (M_NoCommand : ErrM P w K mg base "NoCommand" (c 27) i_NoCommand fd_NoCommand [])
    (f_0_index : Fld K c 0 "index") (f_0_stream : Fld K c 0 "stream") (f_0_word : Fld K c 0 "word") (f_1_column : Fld K c 1 "column") (f_1_table : Fld K c 1 "table") (f_2_at : Fld K c 2 "at") (f_2_table : Fld K c 2 "table") (f_3_loop : Fld K c 3 "loop") (f_3_place : Fld K c 3 "place") (f_4_index : Fld K c 4 "index") (f_4_stream : Fld K c 4 "stream") (f_5_place : Fld K c 5 "place") (f_6_table : Fld K c 6 "table") (f_7_at : Fld K c 7 "at") (f_8_at : Fld K c 8 "at") (f_9_name : Fld K c 9 "name") (f_10_name : Fld K c 10 "name") (f_11_name : Fld K c 11 "name") (f_12_at : Fld K c 12 "at") (f_13_at : Fld K c 13 "at") (f_14_name : Fld K c 14 "name") (f_15_at : Fld K c 15 "at") (f_16_number : Fld K c 16 "number") (f_17_table : Fld K c 17 "table") (f_18_limit : Fld K c 18 "limit") (f_19_limit : Fld K c 19 "limit") (f_20_many : Fld K c 20 "many")
    (g_Parted : mg "Parted" = some (.ref (c 0))) (g_Ringed : mg "Ringed" = some (.ref (c 1))) (g_BadRow : mg "BadRow" = some (.ref (c 2))) (g_Hidden : mg "Hidden" = some (.ref (c 3))) (g_NoSite : mg "NoSite" = some (.ref (c 4))) (g_Wrong : mg "Wrong" = some (.ref (c 5))) (g_BadKey : mg "BadKey" = some (.ref (c 6))) (g_BadReference : mg "BadReference" = some (.ref (c 7))) (g_BadMade : mg "BadMade" = some (.ref (c 8))) (g_Unknown : mg "Unknown" = some (.ref (c 9))) (g_NotFixed : mg "NotFixed" = some (.ref (c 10))) (g_Missing : mg "Missing" = some (.ref (c 11))) (g_BadItem : mg "BadItem" = some (.ref (c 12))) (g_BadShown : mg "BadShown" = some (.ref (c 13))) (g_BadMark : mg "BadMark" = some (.ref (c 14))) (g_Loose : mg "Loose" = some (.ref (c 15))) (g_NoNumber : mg "NoNumber" = some (.ref (c 16))) (g_Twice : mg "Twice" = some (.ref (c 17))) (g_TooMany : mg "TooMany" = some (.ref (c 18))) (g_Full : mg "Full" = some (.ref (c 19))) (g_NoEntry : mg "NoEntry" = some (.ref (c 20))) (g_NoUse : mg "NoUse" = some (.ref (c 21))) (g_Unlike : mg "Unlike" = some (.ref (c 22))) (g_NoMove : mg "NoMove" = some (.ref (c 23))) (g_Unfit : mg "Unfit" = some (.ref (c 24))) (g_Nothing : mg "Nothing" = some (.ref (c 25))) (g_NoText : mg "NoText" = some (.ref (c 26))) (g_NoCommand : mg "NoCommand" = some (.ref (c 27)))
    : FnG P w K mg base 4 f fd ["_law_script"] (spLaw K) := by
  have G_bag : FnOk P w K mg base CX0 1 f_bag fd_bag ["_law_script"] (spBag K) := ok_bag F_bag T
  have G_thing : FnOk P w K mg base CX0 2 f_thing fd_thing ["_law_bag_here"] spThing := ok_thing F_thing T F_take b_take m_take
  have G_errors : FnOk P w K mg base CX0 3 f_errors fd_errors ["_law_one", "_law_two", "_law_three"] (spErrors c) := ok_errors F_errors M_Parted M_Ringed M_BadRow M_Hidden M_NoSite M_Wrong M_BadKey M_BadReference M_BadMade M_Unknown M_NotFixed M_Missing M_BadItem M_BadShown M_BadMark M_Loose M_NoNumber M_Twice M_TooMany M_Full M_NoEntry M_NoUse M_Unlike M_NoMove M_Unfit M_Nothing M_NoText M_NoCommand
  have G_classes : FnOk P w K mg base CX0 1 f_classes fd_classes ["_law_e"] (spClasses K c) := ok_classes F_classes T g_Parted g_Ringed g_BadRow g_Hidden g_NoSite g_Wrong g_BadKey g_BadReference g_BadMade g_Unknown g_NotFixed g_Missing g_BadItem g_BadShown g_BadMark g_Loose g_NoNumber g_Twice g_TooMany g_Full g_NoEntry g_NoUse g_Unlike g_NoMove g_Unfit g_Nothing g_NoText g_NoCommand
  have G_fields : FnOk P w K mg base CX0 1 f_fields fd_fields ["_law_some"] (spFields c) := ok_fields F_fields L.cc f_0_index f_0_stream f_0_word f_1_column f_1_table f_2_at f_2_table f_3_loop f_3_place f_4_index f_4_stream f_5_place f_6_table f_7_at f_8_at f_9_name f_10_name f_11_name f_12_at f_13_at f_14_name f_15_at f_16_number f_17_table f_18_limit f_19_limit f_20_many
  have G_alike : FnG P w K mg base 1 f_alike fd_alike ["_law_one", "_law_other"] (spAlike K) := ok_alike F_alike T sm
  refine okG F scLaw (fun vs H Q E h => ?_) (fun cdv A outer s H vs Q E hg hr h => ?_)
  · obtain ⟨a, ns, rfl, _⟩ := h
    rfl
  · obtain ⟨a, ns, rfl, hS, hl, k⟩ := h
    have nd := scLaw.nd
    obtain ⟨t3, h3, rd3⟩ := end3 (P := P) (w := w) (base := base) (f := f) (cdv := cdv) (A := A) (outer := outer) (s := s) (H := H) (E := E) T L G_classes F_classes b_classes m_classes G_fields F_fields b_fields m_fields G_alike F_alike b_alike m_alike hg hr
    refine ⟨_, (pss_cons (ps_set (i := 1) nd rfl (.inr rfl) (pe_call G_bag (hr.mono (by decide)) (by rfl) m_bag F_bag.kp b_bag .nil pass0 (pa_cons (pv 0) pa_nil))) (pss_cons (ps_for PassesOwn.never rfl (pi_range1 rfl T.range (pa_cons pe_int pa_nil)) (pg_name (i := 2) nd rfl (Or.inl rfl)) (pss_cons (ps_setLc (i := 3) (own := [("_law_k", 10)]) (g := gName 10) (tt := tYes) rfl nd rfl rfl (sw_true rfl rfl rfl (by decide +kernel)) (pi_range1 rfl T.range (pa_cons pe_int pa_nil)) (blkOk_by (N := ["_law_script", "_law_bag_here", "_law_turn", "_law_things", "_law_some", "_law_again", "_law_due", "_law_thing_here", "_law_at", "_law_e", "_law_k"]) (sc := defScope s_law) (by decide +kernel)) (fun _ _ _ _ _ => (pg_name (i := 10) nd rfl (Or.inl rfl))) (fun _ _ _ _ _ => pts_nil) (fun _ _ _ _ _ => (pe_call G_thing (hr.mono (by decide)) (by rfl) m_thing F_thing.kp b_thing .nil pass0 (pa_cons (pv 1) pa_nil)))) (pss_cons (ps_set (i := 4) nd rfl (.inl rfl) (pe_call G_errors (hr.mono (by decide)) (by rfl) m_errors F_errors.kp b_errors .nil pass0 (pa_cons (pe_ix ix_list (pv 3) pe_int (fun _ _ => rfl)) (pa_cons (pe_ix ix_list (pv 3) pe_int (fun _ _ => rfl)) (pa_cons (pe_ix ix_list (pv 3) pe_int (fun _ _ => rfl)) pa_nil))))) h3))) (pss_one (ps_ret pe_bl)))), ?_⟩
    refine ⟨_, rfl, a, ns, rfl, hS, hl, fun b l H1 nb nl B1 keep => ?_⟩
    refine ⟨5, rfl, by decide, by decide, for_range (n := 5) (fun i σ H2 => (∃ y2 y3 y4 y5 y6 y7 y8 y9, σ = [some (.ref a), some (.ref b), y2, y3, y4, y5, y6, y7, y8, y9, none]) ∧ BagS H2 b l) ⟨⟨_, _, _, _, _, _, _, _, rfl⟩, B1⟩ ?_ (fun σ H2 _ => k H2)⟩
    rintro i σ H2 hi ⟨⟨y2, y3, y4, y5, y6, y7, y8, y9, rfl⟩, B2⟩
    refine ⟨3, rfl, by decide, by decide, fun D nD => ?_⟩
    have nDb : D ≠ b := ne_bag B2 nD
    have nDl : D ≠ l := ne_bagl B2 nD
    refine lc_range (lo := 0) (n := (3 : Int).toNat) (fun j H3 => ∃ Fs : List (V × List Addr), H3 D = some (.lst (Fs.map Prod.fst)) ∧ Fs.length = j ∧ BagS H3 b l ∧ (∀ q ∈ Fs, TW 1 H3 q.1 q.2 ∧ ∀ x ∈ q.2, x ≠ D ∧ x ≠ b ∧ x ≠ l) ∧ Fs.Pairwise fun q r => ∀ x ∈ q.2, x ∉ r.2) ?_ ?_ ?_
    · exact ⟨[], upd_same, rfl, B2.ext ((Ext.refl H2).new nD), by simp, .nil⟩
    · rintro j H3 hj ⟨Fs, g1, g2, g3, g4, g5⟩
      refine ⟨rfl, _, rfl, b, l, rfl, g3, fun v H4 G B4 e4 tv fv => ?_⟩
      have hD4 := e4 D _ nDb g1
      have outG : ∀ x ∈ G, x ≠ D ∧ x ≠ b ∧ x ≠ l := fun x hx => ⟨fun e => (by have z := fv x hx; rw [e, g1] at z; cases z), ne_bag g3 (fv x hx), ne_bagl g3 (fv x hx)⟩
      refine ⟨_, hD4, ?_, Fs ++ [(v, G)], ?_, ?_, B4.upd nDb nDl, ?_, ?_⟩
      · rw [List.length_map]
        exact small1000 (by omega)
      · rw [upd_same, List.map_append]
        rfl
      · rw [List.length_append, g2]
        rfl
      · intro q hq
        rcases List.mem_append.mp hq with z | z
        · obtain ⟨t, o⟩ := g4 q z
          exact ⟨t.to fun x hx o' ho => by rw [upd_ne (o x hx).1]; exact e4 x o' (o x hx).2.1 ho, o⟩
        · rw [List.mem_singleton.mp z]
          exact ⟨tv.to fun x hx o' ho => by rw [upd_ne (outG x hx).1]; exact ho, outG⟩
      · refine List.pairwise_append.mpr ⟨g5, List.pairwise_singleton _ _, fun q hq r hr x hx hxr => ?_⟩
        rw [List.mem_singleton.mp hr] at hxr
        obtain ⟨o, ho, _⟩ := (g4 q hq).1.kind x hx
        rw [fv x hxr] at ho
        cases ho
    · rintro H3 ⟨Fs, g1, g2, g3, g4, g5⟩
      match Fs, g2, g1, g4, g5 with
      | [(v0, F0), (v1, F1), (v2, F2)], _, g1, g4, g5 =>
        have sq : SqL K H3 D [v0, v1, v2] := .inl (.inl g1)
        refine ⟨_, rfl, D, _, 0, _, rfl, rfl, sq, rfl, _, rfl, D, _, 1, _, rfl, rfl, sq, rfl, _, rfl, D, _, 2, _, rfl, rfl, sq, rfl, v0, v1, v2, rfl, fun p es_ H4 np e4 hp er => ?_⟩
        have t0 := g4 (v0, F0) (by simp)
        have t1 := g4 (v1, F1) (by simp)
        have t2 := g4 (v2, F2) (by simp)
        have pw := List.pairwise_cons.mp g5
        have pw2 := List.pairwise_cons.mp pw.2
        have np' : ∀ {G : List Addr} {v : V}, TW 1 H3 v G → ∀ x ∈ G, x ≠ p := fun t x hx e => by
          obtain ⟨o, ho, _⟩ := t.kind x hx
          rw [e, np] at ho
          cases ho
        have tri : Three F0 F1 F2 D p b l := ⟨pw.1 (v1, F1) (by simp), pw.1 (v2, F2) (by simp), pw2.1 (v2, F2) (by simp), fun x hx => by
          rcases hx with hx | hx | hx
          · exact ⟨(t0.2 x hx).1, np' t0.1 x hx, (t0.2 x hx).2.1, (t0.2 x hx).2.2⟩
          · exact ⟨(t1.2 x hx).1, np' t1.1 x hx, (t1.2 x hx).2.1, (t1.2 x hx).2.2⟩
          · exact ⟨(t2.2 x hx).1, np' t2.1 x hx, (t2.2 x hx).2.1, (t2.2 x hx).2.2⟩⟩
        exact rd3 _ _ _ _ _ _ _ _ _ _ D p b l es_ v0 v1 v2 F0 F1 F2 H4 tri ⟨e4 _ _ g1, hp, er, g3.ext e4, t0.1.ext e4, t1.1.ext e4, t2.1.ext e4⟩ fun y5 y6 y7 y8 y9 H5 B5 => ⟨⟨_, _, _, _, _, _, _, _, rfl⟩, B5⟩
end
end AL
namespace AL
open PySem PySem.Spec PyProof.Rows L2
/-- what a look at the class finds -/
def excB (K : PySem.W.Frag) (C : Addr) : Bool :=
  decide (PySem.W.findIn K (.ref C) "__getattribute__" = some (some (.builtin "BaseException.__getattribute__"))) && (decide (PySem.W.findIn K (.ref C) "__getattr__" = some none) && (decide (PySem.W.subIn K (.ref C) (.type "BaseException") = some true) &&
  (PySem.W.hasDictIn K C && (decide (PySem.W.findIn K (.ref C) "__class__" = some (some (.builtin "object.__class__"))) && (decide (PySem.W.specialIn K (.builtin "object.__class__") "__get__" = some (some (.builtin "getset_descriptor.__get__"))) &&
  (decide (PySem.W.takesIn K (.builtin "object.__class__") = some true) && (decide (PySem.W.mroIn K C (.type "object") = some true) && (decide (PySem.W.findIn K (.ref C) "__setattr__" = some (some (.builtin "object.__setattr__"))) &&
  (decide (PySem.W.typeIn K (.ref C) = some (.type "type")) && PySem.W.keepIn K (.ref C))))))))))
theorem excB_ok {K : PySem.W.Frag} {C : Addr} (h : excB K C = true) : ExcC K C ∧ PySem.W.findIn K (.ref C) "__setattr__" = some (some (.builtin "object.__setattr__")) ∧ PySem.W.typeIn K (.ref C) = some (.type "type") ∧ PySem.W.keepIn K (.ref C) = true := by
  unfold excB at h
  simp only [Bool.and_eq_true, decide_eq_true_eq] at h
  obtain ⟨h1, h2, h3, h4, h5, h6, h7, h8, h9, h10, h11⟩ := h
  exact ⟨⟨h1, h2, h3, h4, h5, h6, h7, h8⟩, h9, h10, h11⟩
def isaB (K : PySem.W.Frag) (c : Nat → Addr) (cP : Addr) : Bool :=
  ((List.range 28).all fun i => ((List.range 28).all fun j => decide (PySem.W.kitOne K (.ref (c i)) (.ref (c j)) = some (j == i))) && (decide (PySem.W.kitOne K (.ref (c i)) (.ref cP) = some true) && decide (PySem.W.kitOne K (.ref (c i)) (.type "ValueError") = some true))) &&
  (((List.range 28).all fun j => decide (PySem.W.kitOne K (.ref cP) (.ref (c j)) = some false)) && decide (PySem.W.kitOne K (.ref cP) (.type "ValueError") = some true))
theorem isaB_ok {K : PySem.W.Frag} {mg : Str → Option Value} {c : Nat → Addr} {cP : Addr} (h : isaB K c cP = true) (cc : ∀ j, j < 28 → ExcC K (c j)) (ccP : ExcC K cP) (g : mg "PlanError" = some (.ref cP))
    (q : PySem.W.excIn K cP [.type "ValueError", .type "Exception", .type "BaseException", .type "object"] "ValueError.__new__" = true) (k : PySem.W.keepIn K (.ref cP) = true) : Clss K mg c cP := by
  unfold isaB at h
  simp only [Bool.and_eq_true, decide_eq_true_eq, List.all_eq_true, List.mem_range] at h
  obtain ⟨h1, h2, h3⟩ := h
  exact ⟨cc, fun i hi j hj => (h1 i hi).1 j hj, fun i hi => (h1 i hi).2.1, fun i hi => (h1 i hi).2.2, ccP, h2, h3, g, q, k⟩
def fldB (K : PySem.W.Frag) (C : Addr) (fs : List Str) : Bool := fs.all fun f => decide (PySem.W.findIn K (.ref C) f = some none)
theorem fldB_ok {K : PySem.W.Frag} {C : Addr} {fs : List Str} (h : fldB K C fs = true) {f : Str} (hf : f ∈ fs) : PySem.W.findIn K (.ref C) f = some none := of_decide_eq_true (List.all_eq_true.mp h f hf)
set_option maxHeartbeats 0 in
theorem all_mk {l : PySem.W.OpenLaw} {w : World} {K : PySem.W.Frag} {h : Heap} {mg : Str → Option Value} {fa : Addr} (X : K.In h) (G : h.Ns mainGlobals mg) (hfa : mg "law" = some (.ref fa))
    {cP C_Parted j_Parted C_Ringed j_Ringed C_BadRow j_BadRow C_Hidden j_Hidden C_NoSite j_NoSite C_Wrong j_Wrong C_BadKey j_BadKey C_BadReference j_BadReference C_BadMade j_BadMade C_Unknown j_Unknown C_NotFixed j_NotFixed C_Missing j_Missing C_BadItem j_BadItem C_BadShown j_BadShown C_BadMark j_BadMark C_Loose j_Loose C_NoNumber j_NoNumber C_Twice j_Twice C_TooMany j_TooMany C_Full j_Full C_NoEntry j_NoEntry C_NoUse j_NoUse C_Unlike j_Unlike C_NoMove j_NoMove C_Unfit j_Unfit C_Nothing j_Nothing C_NoText j_NoText C_NoCommand j_NoCommand : Addr}
    {nm_Parted q_Parted N_Parted bs_Parted bm_Parted sn_Parted sub_Parted ab_Parted col_Parted dd_Parted k0_Parted k1_Parted k2_Parted k3_Parted k5_Parted : _}
    {od_i_Parted an_i_Parted : Option Addr} {sl_i_Parted : Array (Option Value)} {oc_i_Parted kV_i_Parted dc_i_Parted pm_i_Parted cd_i_Parted ct_i_Parted : Value}
    {nm_Ringed q_Ringed N_Ringed bs_Ringed bm_Ringed sn_Ringed sub_Ringed ab_Ringed col_Ringed dd_Ringed k0_Ringed k1_Ringed k2_Ringed k3_Ringed k5_Ringed : _}
    {od_i_Ringed an_i_Ringed : Option Addr} {sl_i_Ringed : Array (Option Value)} {oc_i_Ringed kV_i_Ringed dc_i_Ringed pm_i_Ringed cd_i_Ringed ct_i_Ringed : Value}
    {nm_BadRow q_BadRow N_BadRow bs_BadRow bm_BadRow sn_BadRow sub_BadRow ab_BadRow col_BadRow dd_BadRow k0_BadRow k1_BadRow k2_BadRow k3_BadRow k5_BadRow : _}
    {od_i_BadRow an_i_BadRow : Option Addr} {sl_i_BadRow : Array (Option Value)} {oc_i_BadRow kV_i_BadRow dc_i_BadRow pm_i_BadRow cd_i_BadRow ct_i_BadRow : Value}
    {nm_Hidden q_Hidden N_Hidden bs_Hidden bm_Hidden sn_Hidden sub_Hidden ab_Hidden col_Hidden dd_Hidden k0_Hidden k1_Hidden k2_Hidden k3_Hidden k5_Hidden : _}
    {od_i_Hidden an_i_Hidden : Option Addr} {sl_i_Hidden : Array (Option Value)} {oc_i_Hidden kV_i_Hidden dc_i_Hidden pm_i_Hidden cd_i_Hidden ct_i_Hidden : Value}
    {nm_NoSite q_NoSite N_NoSite bs_NoSite bm_NoSite sn_NoSite sub_NoSite ab_NoSite col_NoSite dd_NoSite k0_NoSite k1_NoSite k2_NoSite k3_NoSite k5_NoSite : _}
    {od_i_NoSite an_i_NoSite : Option Addr} {sl_i_NoSite : Array (Option Value)} {oc_i_NoSite kV_i_NoSite dc_i_NoSite pm_i_NoSite cd_i_NoSite ct_i_NoSite : Value}
    {nm_Wrong q_Wrong N_Wrong bs_Wrong bm_Wrong sn_Wrong sub_Wrong ab_Wrong col_Wrong dd_Wrong k0_Wrong k1_Wrong k2_Wrong k3_Wrong k5_Wrong : _}
    {od_i_Wrong an_i_Wrong : Option Addr} {sl_i_Wrong : Array (Option Value)} {oc_i_Wrong kV_i_Wrong dc_i_Wrong pm_i_Wrong cd_i_Wrong ct_i_Wrong : Value}
    {nm_BadKey q_BadKey N_BadKey bs_BadKey bm_BadKey sn_BadKey sub_BadKey ab_BadKey col_BadKey dd_BadKey k0_BadKey k1_BadKey k2_BadKey k3_BadKey k5_BadKey : _}
    {od_i_BadKey an_i_BadKey : Option Addr} {sl_i_BadKey : Array (Option Value)} {oc_i_BadKey kV_i_BadKey dc_i_BadKey pm_i_BadKey cd_i_BadKey ct_i_BadKey : Value}
    {nm_BadReference q_BadReference N_BadReference bs_BadReference bm_BadReference sn_BadReference sub_BadReference ab_BadReference col_BadReference dd_BadReference k0_BadReference k1_BadReference k2_BadReference k3_BadReference k5_BadReference : _}
    {od_i_BadReference an_i_BadReference : Option Addr} {sl_i_BadReference : Array (Option Value)} {oc_i_BadReference kV_i_BadReference dc_i_BadReference pm_i_BadReference cd_i_BadReference ct_i_BadReference : Value}
    {nm_BadMade q_BadMade N_BadMade bs_BadMade bm_BadMade sn_BadMade sub_BadMade ab_BadMade col_BadMade dd_BadMade k0_BadMade k1_BadMade k2_BadMade k3_BadMade k5_BadMade : _}
    {od_i_BadMade an_i_BadMade : Option Addr} {sl_i_BadMade : Array (Option Value)} {oc_i_BadMade kV_i_BadMade dc_i_BadMade pm_i_BadMade cd_i_BadMade ct_i_BadMade : Value}
    {nm_Unknown q_Unknown N_Unknown bs_Unknown bm_Unknown sn_Unknown sub_Unknown ab_Unknown col_Unknown dd_Unknown k0_Unknown k1_Unknown k2_Unknown k3_Unknown k5_Unknown : _}
    {od_i_Unknown an_i_Unknown : Option Addr} {sl_i_Unknown : Array (Option Value)} {oc_i_Unknown kV_i_Unknown dc_i_Unknown pm_i_Unknown cd_i_Unknown ct_i_Unknown : Value}
    {nm_NotFixed q_NotFixed N_NotFixed bs_NotFixed bm_NotFixed sn_NotFixed sub_NotFixed ab_NotFixed col_NotFixed dd_NotFixed k0_NotFixed k1_NotFixed k2_NotFixed k3_NotFixed k5_NotFixed : _}
    {od_i_NotFixed an_i_NotFixed : Option Addr} {sl_i_NotFixed : Array (Option Value)} {oc_i_NotFixed kV_i_NotFixed dc_i_NotFixed pm_i_NotFixed cd_i_NotFixed ct_i_NotFixed : Value}
    {nm_Missing q_Missing N_Missing bs_Missing bm_Missing sn_Missing sub_Missing ab_Missing col_Missing dd_Missing k0_Missing k1_Missing k2_Missing k3_Missing k5_Missing : _}
    {od_i_Missing an_i_Missing : Option Addr} {sl_i_Missing : Array (Option Value)} {oc_i_Missing kV_i_Missing dc_i_Missing pm_i_Missing cd_i_Missing ct_i_Missing : Value}
    {nm_BadItem q_BadItem N_BadItem bs_BadItem bm_BadItem sn_BadItem sub_BadItem ab_BadItem col_BadItem dd_BadItem k0_BadItem k1_BadItem k2_BadItem k3_BadItem k5_BadItem : _}
    {od_i_BadItem an_i_BadItem : Option Addr} {sl_i_BadItem : Array (Option Value)} {oc_i_BadItem kV_i_BadItem dc_i_BadItem pm_i_BadItem cd_i_BadItem ct_i_BadItem : Value}
    {nm_BadShown q_BadShown N_BadShown bs_BadShown bm_BadShown sn_BadShown sub_BadShown ab_BadShown col_BadShown dd_BadShown k0_BadShown k1_BadShown k2_BadShown k3_BadShown k5_BadShown : _}
    {od_i_BadShown an_i_BadShown : Option Addr} {sl_i_BadShown : Array (Option Value)} {oc_i_BadShown kV_i_BadShown dc_i_BadShown pm_i_BadShown cd_i_BadShown ct_i_BadShown : Value}
    {nm_BadMark q_BadMark N_BadMark bs_BadMark bm_BadMark sn_BadMark sub_BadMark ab_BadMark col_BadMark dd_BadMark k0_BadMark k1_BadMark k2_BadMark k3_BadMark k5_BadMark : _}
    {od_i_BadMark an_i_BadMark : Option Addr} {sl_i_BadMark : Array (Option Value)} {oc_i_BadMark kV_i_BadMark dc_i_BadMark pm_i_BadMark cd_i_BadMark ct_i_BadMark : Value}
    {nm_Loose q_Loose N_Loose bs_Loose bm_Loose sn_Loose sub_Loose ab_Loose col_Loose dd_Loose k0_Loose k1_Loose k2_Loose k3_Loose k5_Loose : _}
    {od_i_Loose an_i_Loose : Option Addr} {sl_i_Loose : Array (Option Value)} {oc_i_Loose kV_i_Loose dc_i_Loose pm_i_Loose cd_i_Loose ct_i_Loose : Value}
    {nm_NoNumber q_NoNumber N_NoNumber bs_NoNumber bm_NoNumber sn_NoNumber sub_NoNumber ab_NoNumber col_NoNumber dd_NoNumber k0_NoNumber k1_NoNumber k2_NoNumber k3_NoNumber k5_NoNumber : _}
    {od_i_NoNumber an_i_NoNumber : Option Addr} {sl_i_NoNumber : Array (Option Value)} {oc_i_NoNumber kV_i_NoNumber dc_i_NoNumber pm_i_NoNumber cd_i_NoNumber ct_i_NoNumber : Value}
    {nm_Twice q_Twice N_Twice bs_Twice bm_Twice sn_Twice sub_Twice ab_Twice col_Twice dd_Twice k0_Twice k1_Twice k2_Twice k3_Twice k5_Twice : _}
    {od_i_Twice an_i_Twice : Option Addr} {sl_i_Twice : Array (Option Value)} {oc_i_Twice kV_i_Twice dc_i_Twice pm_i_Twice cd_i_Twice ct_i_Twice : Value}
    {nm_TooMany q_TooMany N_TooMany bs_TooMany bm_TooMany sn_TooMany sub_TooMany ab_TooMany col_TooMany dd_TooMany k0_TooMany k1_TooMany k2_TooMany k3_TooMany k5_TooMany : _}
    {od_i_TooMany an_i_TooMany : Option Addr} {sl_i_TooMany : Array (Option Value)} {oc_i_TooMany kV_i_TooMany dc_i_TooMany pm_i_TooMany cd_i_TooMany ct_i_TooMany : Value}
    {nm_Full q_Full N_Full bs_Full bm_Full sn_Full sub_Full ab_Full col_Full dd_Full k0_Full k1_Full k2_Full k3_Full k5_Full : _}
    {od_i_Full an_i_Full : Option Addr} {sl_i_Full : Array (Option Value)} {oc_i_Full kV_i_Full dc_i_Full pm_i_Full cd_i_Full ct_i_Full : Value}
    {nm_NoEntry q_NoEntry N_NoEntry bs_NoEntry bm_NoEntry sn_NoEntry sub_NoEntry ab_NoEntry col_NoEntry dd_NoEntry k0_NoEntry k1_NoEntry k2_NoEntry k3_NoEntry k5_NoEntry : _}
    {od_i_NoEntry an_i_NoEntry : Option Addr} {sl_i_NoEntry : Array (Option Value)} {oc_i_NoEntry kV_i_NoEntry dc_i_NoEntry pm_i_NoEntry cd_i_NoEntry ct_i_NoEntry : Value}
    {nm_NoUse q_NoUse N_NoUse bs_NoUse bm_NoUse sn_NoUse sub_NoUse ab_NoUse col_NoUse dd_NoUse k0_NoUse k1_NoUse k2_NoUse k3_NoUse k5_NoUse : _}
    {od_i_NoUse an_i_NoUse : Option Addr} {sl_i_NoUse : Array (Option Value)} {oc_i_NoUse kV_i_NoUse dc_i_NoUse pm_i_NoUse cd_i_NoUse ct_i_NoUse : Value}
    {nm_Unlike q_Unlike N_Unlike bs_Unlike bm_Unlike sn_Unlike sub_Unlike ab_Unlike col_Unlike dd_Unlike k0_Unlike k1_Unlike k2_Unlike k3_Unlike k5_Unlike : _}
    {od_i_Unlike an_i_Unlike : Option Addr} {sl_i_Unlike : Array (Option Value)} {oc_i_Unlike kV_i_Unlike dc_i_Unlike pm_i_Unlike cd_i_Unlike ct_i_Unlike : Value}
    {nm_NoMove q_NoMove N_NoMove bs_NoMove bm_NoMove sn_NoMove sub_NoMove ab_NoMove col_NoMove dd_NoMove k0_NoMove k1_NoMove k2_NoMove k3_NoMove k5_NoMove : _}
    {od_i_NoMove an_i_NoMove : Option Addr} {sl_i_NoMove : Array (Option Value)} {oc_i_NoMove kV_i_NoMove dc_i_NoMove pm_i_NoMove cd_i_NoMove ct_i_NoMove : Value}
    {nm_Unfit q_Unfit N_Unfit bs_Unfit bm_Unfit sn_Unfit sub_Unfit ab_Unfit col_Unfit dd_Unfit k0_Unfit k1_Unfit k2_Unfit k3_Unfit k5_Unfit : _}
    {od_i_Unfit an_i_Unfit : Option Addr} {sl_i_Unfit : Array (Option Value)} {oc_i_Unfit kV_i_Unfit dc_i_Unfit pm_i_Unfit cd_i_Unfit ct_i_Unfit : Value}
    {nm_Nothing q_Nothing N_Nothing bs_Nothing bm_Nothing sn_Nothing sub_Nothing ab_Nothing col_Nothing dd_Nothing k0_Nothing k1_Nothing k2_Nothing k3_Nothing k5_Nothing : _}
    {od_i_Nothing an_i_Nothing : Option Addr} {sl_i_Nothing : Array (Option Value)} {oc_i_Nothing kV_i_Nothing dc_i_Nothing pm_i_Nothing cd_i_Nothing ct_i_Nothing : Value}
    {nm_NoText q_NoText N_NoText bs_NoText bm_NoText sn_NoText sub_NoText ab_NoText col_NoText dd_NoText k0_NoText k1_NoText k2_NoText k3_NoText k5_NoText : _}
    {od_i_NoText an_i_NoText : Option Addr} {sl_i_NoText : Array (Option Value)} {oc_i_NoText kV_i_NoText dc_i_NoText pm_i_NoText cd_i_NoText ct_i_NoText : Value}
    {nm_NoCommand q_NoCommand N_NoCommand bs_NoCommand bm_NoCommand sn_NoCommand sub_NoCommand ab_NoCommand col_NoCommand dd_NoCommand k0_NoCommand k1_NoCommand k2_NoCommand k3_NoCommand k5_NoCommand : _}
    {od_i_NoCommand an_i_NoCommand : Option Addr} {sl_i_NoCommand : Array (Option Value)} {oc_i_NoCommand kV_i_NoCommand dc_i_NoCommand pm_i_NoCommand cd_i_NoCommand ct_i_NoCommand : Value}
    {f_bag : Addr} {od_bag an_bag : Option Addr} {sl_bag : Array (Option Value)} {oc_bag kV_bag dc_bag pm_bag cd_bag ct_bag : Value}
    {f_take : Addr} {od_take an_take : Option Addr} {sl_take : Array (Option Value)} {oc_take kV_take dc_take pm_take cd_take ct_take : Value}
    {f_alike : Addr} {od_alike an_alike : Option Addr} {sl_alike : Array (Option Value)} {oc_alike kV_alike dc_alike pm_alike cd_alike ct_alike : Value}
    {f_thing : Addr} {od_thing an_thing : Option Addr} {sl_thing : Array (Option Value)} {oc_thing kV_thing dc_thing pm_thing cd_thing ct_thing : Value}
    {f_errors : Addr} {od_errors an_errors : Option Addr} {sl_errors : Array (Option Value)} {oc_errors kV_errors dc_errors pm_errors cd_errors ct_errors : Value}
    {f_classes : Addr} {od_classes an_classes : Option Addr} {sl_classes : Array (Option Value)} {oc_classes kV_classes dc_classes pm_classes cd_classes ct_classes : Value}
    {f_fields : Addr} {od_fields an_fields : Option Addr} {sl_fields : Array (Option Value)} {oc_fields kV_fields dc_fields pm_fields cd_fields ct_fields : Value}
    {f_law : Addr} {od_law an_law : Option Addr} {sl_law : Array (Option Value)} {oc_law kV_law dc_law pm_law cd_law ct_law : Value}
    (a_Parted : PySem.W.nsIn K mainGlobals "Parted" = some (some (.ref C_Parted)))
    (xl_Parted : K.lookup C_Parted = some (excClassObj nm_Parted q_Parted C_Parted N_Parted bs_Parted bm_Parted true sn_Parted sub_Parted ab_Parted col_Parted dd_Parted k0_Parted k1_Parted k2_Parted k3_Parted k5_Parted "ValueError.__new__")) (rb_Parted : PySem.HandSPX.refsVE bm_Parted = true)
    (eb_Parted : excB K C_Parted = true) (fb_Parted : fldB K C_Parted ["stream", "index", "word"] = true)
    (ai_Parted : PySem.W.findIn K (.ref C_Parted) "__init__" = some (some (.ref j_Parted))) (ti_Parted : PySem.W.typeIn K (.ref j_Parted) = some (.type "function"))
    (l_i_Parted : K.lookup j_Parted = some ⟨oc_i_Parted, od_i_Parted, .func (PySem.W.fnOf "__init__" "Parted.__init__" (defArgs i_Parted) (defBody i_Parted) (defScope i_Parted) .none kV_i_Parted dc_i_Parted pm_i_Parted an_i_Parted cd_i_Parted ct_i_Parted), sl_i_Parted⟩)
    (c_i_Parted : PySem.W.codeIn K cd_i_Parted "Parted.__init__" = true) (k_i_Parted : PySem.W.keepIn K (.ref j_Parted) = true)
    (a_Ringed : PySem.W.nsIn K mainGlobals "Ringed" = some (some (.ref C_Ringed)))
    (xl_Ringed : K.lookup C_Ringed = some (excClassObj nm_Ringed q_Ringed C_Ringed N_Ringed bs_Ringed bm_Ringed true sn_Ringed sub_Ringed ab_Ringed col_Ringed dd_Ringed k0_Ringed k1_Ringed k2_Ringed k3_Ringed k5_Ringed "ValueError.__new__")) (rb_Ringed : PySem.HandSPX.refsVE bm_Ringed = true)
    (eb_Ringed : excB K C_Ringed = true) (fb_Ringed : fldB K C_Ringed ["table", "column"] = true)
    (ai_Ringed : PySem.W.findIn K (.ref C_Ringed) "__init__" = some (some (.ref j_Ringed))) (ti_Ringed : PySem.W.typeIn K (.ref j_Ringed) = some (.type "function"))
    (l_i_Ringed : K.lookup j_Ringed = some ⟨oc_i_Ringed, od_i_Ringed, .func (PySem.W.fnOf "__init__" "Ringed.__init__" (defArgs i_Ringed) (defBody i_Ringed) (defScope i_Ringed) .none kV_i_Ringed dc_i_Ringed pm_i_Ringed an_i_Ringed cd_i_Ringed ct_i_Ringed), sl_i_Ringed⟩)
    (c_i_Ringed : PySem.W.codeIn K cd_i_Ringed "Ringed.__init__" = true) (k_i_Ringed : PySem.W.keepIn K (.ref j_Ringed) = true)
    (a_BadRow : PySem.W.nsIn K mainGlobals "BadRow" = some (some (.ref C_BadRow)))
    (xl_BadRow : K.lookup C_BadRow = some (excClassObj nm_BadRow q_BadRow C_BadRow N_BadRow bs_BadRow bm_BadRow true sn_BadRow sub_BadRow ab_BadRow col_BadRow dd_BadRow k0_BadRow k1_BadRow k2_BadRow k3_BadRow k5_BadRow "ValueError.__new__")) (rb_BadRow : PySem.HandSPX.refsVE bm_BadRow = true)
    (eb_BadRow : excB K C_BadRow = true) (fb_BadRow : fldB K C_BadRow ["table", "at"] = true)
    (ai_BadRow : PySem.W.findIn K (.ref C_BadRow) "__init__" = some (some (.ref j_BadRow))) (ti_BadRow : PySem.W.typeIn K (.ref j_BadRow) = some (.type "function"))
    (l_i_BadRow : K.lookup j_BadRow = some ⟨oc_i_BadRow, od_i_BadRow, .func (PySem.W.fnOf "__init__" "BadRow.__init__" (defArgs i_BadRow) (defBody i_BadRow) (defScope i_BadRow) .none kV_i_BadRow dc_i_BadRow pm_i_BadRow an_i_BadRow cd_i_BadRow ct_i_BadRow), sl_i_BadRow⟩)
    (c_i_BadRow : PySem.W.codeIn K cd_i_BadRow "BadRow.__init__" = true) (k_i_BadRow : PySem.W.keepIn K (.ref j_BadRow) = true)
    (a_Hidden : PySem.W.nsIn K mainGlobals "Hidden" = some (some (.ref C_Hidden)))
    (xl_Hidden : K.lookup C_Hidden = some (excClassObj nm_Hidden q_Hidden C_Hidden N_Hidden bs_Hidden bm_Hidden true sn_Hidden sub_Hidden ab_Hidden col_Hidden dd_Hidden k0_Hidden k1_Hidden k2_Hidden k3_Hidden k5_Hidden "ValueError.__new__")) (rb_Hidden : PySem.HandSPX.refsVE bm_Hidden = true)
    (eb_Hidden : excB K C_Hidden = true) (fb_Hidden : fldB K C_Hidden ["place", "loop"] = true)
    (ai_Hidden : PySem.W.findIn K (.ref C_Hidden) "__init__" = some (some (.ref j_Hidden))) (ti_Hidden : PySem.W.typeIn K (.ref j_Hidden) = some (.type "function"))
    (l_i_Hidden : K.lookup j_Hidden = some ⟨oc_i_Hidden, od_i_Hidden, .func (PySem.W.fnOf "__init__" "Hidden.__init__" (defArgs i_Hidden) (defBody i_Hidden) (defScope i_Hidden) .none kV_i_Hidden dc_i_Hidden pm_i_Hidden an_i_Hidden cd_i_Hidden ct_i_Hidden), sl_i_Hidden⟩)
    (c_i_Hidden : PySem.W.codeIn K cd_i_Hidden "Hidden.__init__" = true) (k_i_Hidden : PySem.W.keepIn K (.ref j_Hidden) = true)
    (a_NoSite : PySem.W.nsIn K mainGlobals "NoSite" = some (some (.ref C_NoSite)))
    (xl_NoSite : K.lookup C_NoSite = some (excClassObj nm_NoSite q_NoSite C_NoSite N_NoSite bs_NoSite bm_NoSite true sn_NoSite sub_NoSite ab_NoSite col_NoSite dd_NoSite k0_NoSite k1_NoSite k2_NoSite k3_NoSite k5_NoSite "ValueError.__new__")) (rb_NoSite : PySem.HandSPX.refsVE bm_NoSite = true)
    (eb_NoSite : excB K C_NoSite = true) (fb_NoSite : fldB K C_NoSite ["stream", "index"] = true)
    (ai_NoSite : PySem.W.findIn K (.ref C_NoSite) "__init__" = some (some (.ref j_NoSite))) (ti_NoSite : PySem.W.typeIn K (.ref j_NoSite) = some (.type "function"))
    (l_i_NoSite : K.lookup j_NoSite = some ⟨oc_i_NoSite, od_i_NoSite, .func (PySem.W.fnOf "__init__" "NoSite.__init__" (defArgs i_NoSite) (defBody i_NoSite) (defScope i_NoSite) .none kV_i_NoSite dc_i_NoSite pm_i_NoSite an_i_NoSite cd_i_NoSite ct_i_NoSite), sl_i_NoSite⟩)
    (c_i_NoSite : PySem.W.codeIn K cd_i_NoSite "NoSite.__init__" = true) (k_i_NoSite : PySem.W.keepIn K (.ref j_NoSite) = true)
    (a_Wrong : PySem.W.nsIn K mainGlobals "Wrong" = some (some (.ref C_Wrong)))
    (xl_Wrong : K.lookup C_Wrong = some (excClassObj nm_Wrong q_Wrong C_Wrong N_Wrong bs_Wrong bm_Wrong true sn_Wrong sub_Wrong ab_Wrong col_Wrong dd_Wrong k0_Wrong k1_Wrong k2_Wrong k3_Wrong k5_Wrong "ValueError.__new__")) (rb_Wrong : PySem.HandSPX.refsVE bm_Wrong = true)
    (eb_Wrong : excB K C_Wrong = true) (fb_Wrong : fldB K C_Wrong ["place"] = true)
    (ai_Wrong : PySem.W.findIn K (.ref C_Wrong) "__init__" = some (some (.ref j_Wrong))) (ti_Wrong : PySem.W.typeIn K (.ref j_Wrong) = some (.type "function"))
    (l_i_Wrong : K.lookup j_Wrong = some ⟨oc_i_Wrong, od_i_Wrong, .func (PySem.W.fnOf "__init__" "Wrong.__init__" (defArgs i_Wrong) (defBody i_Wrong) (defScope i_Wrong) .none kV_i_Wrong dc_i_Wrong pm_i_Wrong an_i_Wrong cd_i_Wrong ct_i_Wrong), sl_i_Wrong⟩)
    (c_i_Wrong : PySem.W.codeIn K cd_i_Wrong "Wrong.__init__" = true) (k_i_Wrong : PySem.W.keepIn K (.ref j_Wrong) = true)
    (a_BadKey : PySem.W.nsIn K mainGlobals "BadKey" = some (some (.ref C_BadKey)))
    (xl_BadKey : K.lookup C_BadKey = some (excClassObj nm_BadKey q_BadKey C_BadKey N_BadKey bs_BadKey bm_BadKey true sn_BadKey sub_BadKey ab_BadKey col_BadKey dd_BadKey k0_BadKey k1_BadKey k2_BadKey k3_BadKey k5_BadKey "ValueError.__new__")) (rb_BadKey : PySem.HandSPX.refsVE bm_BadKey = true)
    (eb_BadKey : excB K C_BadKey = true) (fb_BadKey : fldB K C_BadKey ["table"] = true)
    (ai_BadKey : PySem.W.findIn K (.ref C_BadKey) "__init__" = some (some (.ref j_BadKey))) (ti_BadKey : PySem.W.typeIn K (.ref j_BadKey) = some (.type "function"))
    (l_i_BadKey : K.lookup j_BadKey = some ⟨oc_i_BadKey, od_i_BadKey, .func (PySem.W.fnOf "__init__" "BadKey.__init__" (defArgs i_BadKey) (defBody i_BadKey) (defScope i_BadKey) .none kV_i_BadKey dc_i_BadKey pm_i_BadKey an_i_BadKey cd_i_BadKey ct_i_BadKey), sl_i_BadKey⟩)
    (c_i_BadKey : PySem.W.codeIn K cd_i_BadKey "BadKey.__init__" = true) (k_i_BadKey : PySem.W.keepIn K (.ref j_BadKey) = true)
    (a_BadReference : PySem.W.nsIn K mainGlobals "BadReference" = some (some (.ref C_BadReference)))
    (xl_BadReference : K.lookup C_BadReference = some (excClassObj nm_BadReference q_BadReference C_BadReference N_BadReference bs_BadReference bm_BadReference true sn_BadReference sub_BadReference ab_BadReference col_BadReference dd_BadReference k0_BadReference k1_BadReference k2_BadReference k3_BadReference k5_BadReference "ValueError.__new__")) (rb_BadReference : PySem.HandSPX.refsVE bm_BadReference = true)
    (eb_BadReference : excB K C_BadReference = true) (fb_BadReference : fldB K C_BadReference ["at"] = true)
    (ai_BadReference : PySem.W.findIn K (.ref C_BadReference) "__init__" = some (some (.ref j_BadReference))) (ti_BadReference : PySem.W.typeIn K (.ref j_BadReference) = some (.type "function"))
    (l_i_BadReference : K.lookup j_BadReference = some ⟨oc_i_BadReference, od_i_BadReference, .func (PySem.W.fnOf "__init__" "BadReference.__init__" (defArgs i_BadReference) (defBody i_BadReference) (defScope i_BadReference) .none kV_i_BadReference dc_i_BadReference pm_i_BadReference an_i_BadReference cd_i_BadReference ct_i_BadReference), sl_i_BadReference⟩)
    (c_i_BadReference : PySem.W.codeIn K cd_i_BadReference "BadReference.__init__" = true) (k_i_BadReference : PySem.W.keepIn K (.ref j_BadReference) = true)
    (a_BadMade : PySem.W.nsIn K mainGlobals "BadMade" = some (some (.ref C_BadMade)))
    (xl_BadMade : K.lookup C_BadMade = some (excClassObj nm_BadMade q_BadMade C_BadMade N_BadMade bs_BadMade bm_BadMade true sn_BadMade sub_BadMade ab_BadMade col_BadMade dd_BadMade k0_BadMade k1_BadMade k2_BadMade k3_BadMade k5_BadMade "ValueError.__new__")) (rb_BadMade : PySem.HandSPX.refsVE bm_BadMade = true)
    (eb_BadMade : excB K C_BadMade = true) (fb_BadMade : fldB K C_BadMade ["at"] = true)
    (ai_BadMade : PySem.W.findIn K (.ref C_BadMade) "__init__" = some (some (.ref j_BadMade))) (ti_BadMade : PySem.W.typeIn K (.ref j_BadMade) = some (.type "function"))
    (l_i_BadMade : K.lookup j_BadMade = some ⟨oc_i_BadMade, od_i_BadMade, .func (PySem.W.fnOf "__init__" "BadMade.__init__" (defArgs i_BadMade) (defBody i_BadMade) (defScope i_BadMade) .none kV_i_BadMade dc_i_BadMade pm_i_BadMade an_i_BadMade cd_i_BadMade ct_i_BadMade), sl_i_BadMade⟩)
    (c_i_BadMade : PySem.W.codeIn K cd_i_BadMade "BadMade.__init__" = true) (k_i_BadMade : PySem.W.keepIn K (.ref j_BadMade) = true)
    (a_Unknown : PySem.W.nsIn K mainGlobals "Unknown" = some (some (.ref C_Unknown)))
    (xl_Unknown : K.lookup C_Unknown = some (excClassObj nm_Unknown q_Unknown C_Unknown N_Unknown bs_Unknown bm_Unknown true sn_Unknown sub_Unknown ab_Unknown col_Unknown dd_Unknown k0_Unknown k1_Unknown k2_Unknown k3_Unknown k5_Unknown "ValueError.__new__")) (rb_Unknown : PySem.HandSPX.refsVE bm_Unknown = true)
    (eb_Unknown : excB K C_Unknown = true) (fb_Unknown : fldB K C_Unknown ["name"] = true)
    (ai_Unknown : PySem.W.findIn K (.ref C_Unknown) "__init__" = some (some (.ref j_Unknown))) (ti_Unknown : PySem.W.typeIn K (.ref j_Unknown) = some (.type "function"))
    (l_i_Unknown : K.lookup j_Unknown = some ⟨oc_i_Unknown, od_i_Unknown, .func (PySem.W.fnOf "__init__" "Unknown.__init__" (defArgs i_Unknown) (defBody i_Unknown) (defScope i_Unknown) .none kV_i_Unknown dc_i_Unknown pm_i_Unknown an_i_Unknown cd_i_Unknown ct_i_Unknown), sl_i_Unknown⟩)
    (c_i_Unknown : PySem.W.codeIn K cd_i_Unknown "Unknown.__init__" = true) (k_i_Unknown : PySem.W.keepIn K (.ref j_Unknown) = true)
    (a_NotFixed : PySem.W.nsIn K mainGlobals "NotFixed" = some (some (.ref C_NotFixed)))
    (xl_NotFixed : K.lookup C_NotFixed = some (excClassObj nm_NotFixed q_NotFixed C_NotFixed N_NotFixed bs_NotFixed bm_NotFixed true sn_NotFixed sub_NotFixed ab_NotFixed col_NotFixed dd_NotFixed k0_NotFixed k1_NotFixed k2_NotFixed k3_NotFixed k5_NotFixed "ValueError.__new__")) (rb_NotFixed : PySem.HandSPX.refsVE bm_NotFixed = true)
    (eb_NotFixed : excB K C_NotFixed = true) (fb_NotFixed : fldB K C_NotFixed ["name"] = true)
    (ai_NotFixed : PySem.W.findIn K (.ref C_NotFixed) "__init__" = some (some (.ref j_NotFixed))) (ti_NotFixed : PySem.W.typeIn K (.ref j_NotFixed) = some (.type "function"))
    (l_i_NotFixed : K.lookup j_NotFixed = some ⟨oc_i_NotFixed, od_i_NotFixed, .func (PySem.W.fnOf "__init__" "NotFixed.__init__" (defArgs i_NotFixed) (defBody i_NotFixed) (defScope i_NotFixed) .none kV_i_NotFixed dc_i_NotFixed pm_i_NotFixed an_i_NotFixed cd_i_NotFixed ct_i_NotFixed), sl_i_NotFixed⟩)
    (c_i_NotFixed : PySem.W.codeIn K cd_i_NotFixed "NotFixed.__init__" = true) (k_i_NotFixed : PySem.W.keepIn K (.ref j_NotFixed) = true)
    (a_Missing : PySem.W.nsIn K mainGlobals "Missing" = some (some (.ref C_Missing)))
    (xl_Missing : K.lookup C_Missing = some (excClassObj nm_Missing q_Missing C_Missing N_Missing bs_Missing bm_Missing true sn_Missing sub_Missing ab_Missing col_Missing dd_Missing k0_Missing k1_Missing k2_Missing k3_Missing k5_Missing "ValueError.__new__")) (rb_Missing : PySem.HandSPX.refsVE bm_Missing = true)
    (eb_Missing : excB K C_Missing = true) (fb_Missing : fldB K C_Missing ["name"] = true)
    (ai_Missing : PySem.W.findIn K (.ref C_Missing) "__init__" = some (some (.ref j_Missing))) (ti_Missing : PySem.W.typeIn K (.ref j_Missing) = some (.type "function"))
    (l_i_Missing : K.lookup j_Missing = some ⟨oc_i_Missing, od_i_Missing, .func (PySem.W.fnOf "__init__" "Missing.__init__" (defArgs i_Missing) (defBody i_Missing) (defScope i_Missing) .none kV_i_Missing dc_i_Missing pm_i_Missing an_i_Missing cd_i_Missing ct_i_Missing), sl_i_Missing⟩)
    (c_i_Missing : PySem.W.codeIn K cd_i_Missing "Missing.__init__" = true) (k_i_Missing : PySem.W.keepIn K (.ref j_Missing) = true)
    (a_BadItem : PySem.W.nsIn K mainGlobals "BadItem" = some (some (.ref C_BadItem)))
    (xl_BadItem : K.lookup C_BadItem = some (excClassObj nm_BadItem q_BadItem C_BadItem N_BadItem bs_BadItem bm_BadItem true sn_BadItem sub_BadItem ab_BadItem col_BadItem dd_BadItem k0_BadItem k1_BadItem k2_BadItem k3_BadItem k5_BadItem "ValueError.__new__")) (rb_BadItem : PySem.HandSPX.refsVE bm_BadItem = true)
    (eb_BadItem : excB K C_BadItem = true) (fb_BadItem : fldB K C_BadItem ["at"] = true)
    (ai_BadItem : PySem.W.findIn K (.ref C_BadItem) "__init__" = some (some (.ref j_BadItem))) (ti_BadItem : PySem.W.typeIn K (.ref j_BadItem) = some (.type "function"))
    (l_i_BadItem : K.lookup j_BadItem = some ⟨oc_i_BadItem, od_i_BadItem, .func (PySem.W.fnOf "__init__" "BadItem.__init__" (defArgs i_BadItem) (defBody i_BadItem) (defScope i_BadItem) .none kV_i_BadItem dc_i_BadItem pm_i_BadItem an_i_BadItem cd_i_BadItem ct_i_BadItem), sl_i_BadItem⟩)
    (c_i_BadItem : PySem.W.codeIn K cd_i_BadItem "BadItem.__init__" = true) (k_i_BadItem : PySem.W.keepIn K (.ref j_BadItem) = true)
    (a_BadShown : PySem.W.nsIn K mainGlobals "BadShown" = some (some (.ref C_BadShown)))
    (xl_BadShown : K.lookup C_BadShown = some (excClassObj nm_BadShown q_BadShown C_BadShown N_BadShown bs_BadShown bm_BadShown true sn_BadShown sub_BadShown ab_BadShown col_BadShown dd_BadShown k0_BadShown k1_BadShown k2_BadShown k3_BadShown k5_BadShown "ValueError.__new__")) (rb_BadShown : PySem.HandSPX.refsVE bm_BadShown = true)
    (eb_BadShown : excB K C_BadShown = true) (fb_BadShown : fldB K C_BadShown ["at"] = true)
    (ai_BadShown : PySem.W.findIn K (.ref C_BadShown) "__init__" = some (some (.ref j_BadShown))) (ti_BadShown : PySem.W.typeIn K (.ref j_BadShown) = some (.type "function"))
    (l_i_BadShown : K.lookup j_BadShown = some ⟨oc_i_BadShown, od_i_BadShown, .func (PySem.W.fnOf "__init__" "BadShown.__init__" (defArgs i_BadShown) (defBody i_BadShown) (defScope i_BadShown) .none kV_i_BadShown dc_i_BadShown pm_i_BadShown an_i_BadShown cd_i_BadShown ct_i_BadShown), sl_i_BadShown⟩)
    (c_i_BadShown : PySem.W.codeIn K cd_i_BadShown "BadShown.__init__" = true) (k_i_BadShown : PySem.W.keepIn K (.ref j_BadShown) = true)
    (a_BadMark : PySem.W.nsIn K mainGlobals "BadMark" = some (some (.ref C_BadMark)))
    (xl_BadMark : K.lookup C_BadMark = some (excClassObj nm_BadMark q_BadMark C_BadMark N_BadMark bs_BadMark bm_BadMark true sn_BadMark sub_BadMark ab_BadMark col_BadMark dd_BadMark k0_BadMark k1_BadMark k2_BadMark k3_BadMark k5_BadMark "ValueError.__new__")) (rb_BadMark : PySem.HandSPX.refsVE bm_BadMark = true)
    (eb_BadMark : excB K C_BadMark = true) (fb_BadMark : fldB K C_BadMark ["name"] = true)
    (ai_BadMark : PySem.W.findIn K (.ref C_BadMark) "__init__" = some (some (.ref j_BadMark))) (ti_BadMark : PySem.W.typeIn K (.ref j_BadMark) = some (.type "function"))
    (l_i_BadMark : K.lookup j_BadMark = some ⟨oc_i_BadMark, od_i_BadMark, .func (PySem.W.fnOf "__init__" "BadMark.__init__" (defArgs i_BadMark) (defBody i_BadMark) (defScope i_BadMark) .none kV_i_BadMark dc_i_BadMark pm_i_BadMark an_i_BadMark cd_i_BadMark ct_i_BadMark), sl_i_BadMark⟩)
    (c_i_BadMark : PySem.W.codeIn K cd_i_BadMark "BadMark.__init__" = true) (k_i_BadMark : PySem.W.keepIn K (.ref j_BadMark) = true)
    (a_Loose : PySem.W.nsIn K mainGlobals "Loose" = some (some (.ref C_Loose)))
    (xl_Loose : K.lookup C_Loose = some (excClassObj nm_Loose q_Loose C_Loose N_Loose bs_Loose bm_Loose true sn_Loose sub_Loose ab_Loose col_Loose dd_Loose k0_Loose k1_Loose k2_Loose k3_Loose k5_Loose "ValueError.__new__")) (rb_Loose : PySem.HandSPX.refsVE bm_Loose = true)
    (eb_Loose : excB K C_Loose = true) (fb_Loose : fldB K C_Loose ["at"] = true)
    (ai_Loose : PySem.W.findIn K (.ref C_Loose) "__init__" = some (some (.ref j_Loose))) (ti_Loose : PySem.W.typeIn K (.ref j_Loose) = some (.type "function"))
    (l_i_Loose : K.lookup j_Loose = some ⟨oc_i_Loose, od_i_Loose, .func (PySem.W.fnOf "__init__" "Loose.__init__" (defArgs i_Loose) (defBody i_Loose) (defScope i_Loose) .none kV_i_Loose dc_i_Loose pm_i_Loose an_i_Loose cd_i_Loose ct_i_Loose), sl_i_Loose⟩)
    (c_i_Loose : PySem.W.codeIn K cd_i_Loose "Loose.__init__" = true) (k_i_Loose : PySem.W.keepIn K (.ref j_Loose) = true)
    (a_NoNumber : PySem.W.nsIn K mainGlobals "NoNumber" = some (some (.ref C_NoNumber)))
    (xl_NoNumber : K.lookup C_NoNumber = some (excClassObj nm_NoNumber q_NoNumber C_NoNumber N_NoNumber bs_NoNumber bm_NoNumber true sn_NoNumber sub_NoNumber ab_NoNumber col_NoNumber dd_NoNumber k0_NoNumber k1_NoNumber k2_NoNumber k3_NoNumber k5_NoNumber "ValueError.__new__")) (rb_NoNumber : PySem.HandSPX.refsVE bm_NoNumber = true)
    (eb_NoNumber : excB K C_NoNumber = true) (fb_NoNumber : fldB K C_NoNumber ["number"] = true)
    (ai_NoNumber : PySem.W.findIn K (.ref C_NoNumber) "__init__" = some (some (.ref j_NoNumber))) (ti_NoNumber : PySem.W.typeIn K (.ref j_NoNumber) = some (.type "function"))
    (l_i_NoNumber : K.lookup j_NoNumber = some ⟨oc_i_NoNumber, od_i_NoNumber, .func (PySem.W.fnOf "__init__" "NoNumber.__init__" (defArgs i_NoNumber) (defBody i_NoNumber) (defScope i_NoNumber) .none kV_i_NoNumber dc_i_NoNumber pm_i_NoNumber an_i_NoNumber cd_i_NoNumber ct_i_NoNumber), sl_i_NoNumber⟩)
    (c_i_NoNumber : PySem.W.codeIn K cd_i_NoNumber "NoNumber.__init__" = true) (k_i_NoNumber : PySem.W.keepIn K (.ref j_NoNumber) = true)
    (a_Twice : PySem.W.nsIn K mainGlobals "Twice" = some (some (.ref C_Twice)))
    (xl_Twice : K.lookup C_Twice = some (excClassObj nm_Twice q_Twice C_Twice N_Twice bs_Twice bm_Twice true sn_Twice sub_Twice ab_Twice col_Twice dd_Twice k0_Twice k1_Twice k2_Twice k3_Twice k5_Twice "ValueError.__new__")) (rb_Twice : PySem.HandSPX.refsVE bm_Twice = true)
    (eb_Twice : excB K C_Twice = true) (fb_Twice : fldB K C_Twice ["table"] = true)
    (ai_Twice : PySem.W.findIn K (.ref C_Twice) "__init__" = some (some (.ref j_Twice))) (ti_Twice : PySem.W.typeIn K (.ref j_Twice) = some (.type "function"))
    (l_i_Twice : K.lookup j_Twice = some ⟨oc_i_Twice, od_i_Twice, .func (PySem.W.fnOf "__init__" "Twice.__init__" (defArgs i_Twice) (defBody i_Twice) (defScope i_Twice) .none kV_i_Twice dc_i_Twice pm_i_Twice an_i_Twice cd_i_Twice ct_i_Twice), sl_i_Twice⟩)
    (c_i_Twice : PySem.W.codeIn K cd_i_Twice "Twice.__init__" = true) (k_i_Twice : PySem.W.keepIn K (.ref j_Twice) = true)
    (a_TooMany : PySem.W.nsIn K mainGlobals "TooMany" = some (some (.ref C_TooMany)))
    (xl_TooMany : K.lookup C_TooMany = some (excClassObj nm_TooMany q_TooMany C_TooMany N_TooMany bs_TooMany bm_TooMany true sn_TooMany sub_TooMany ab_TooMany col_TooMany dd_TooMany k0_TooMany k1_TooMany k2_TooMany k3_TooMany k5_TooMany "ValueError.__new__")) (rb_TooMany : PySem.HandSPX.refsVE bm_TooMany = true)
    (eb_TooMany : excB K C_TooMany = true) (fb_TooMany : fldB K C_TooMany ["limit"] = true)
    (ai_TooMany : PySem.W.findIn K (.ref C_TooMany) "__init__" = some (some (.ref j_TooMany))) (ti_TooMany : PySem.W.typeIn K (.ref j_TooMany) = some (.type "function"))
    (l_i_TooMany : K.lookup j_TooMany = some ⟨oc_i_TooMany, od_i_TooMany, .func (PySem.W.fnOf "__init__" "TooMany.__init__" (defArgs i_TooMany) (defBody i_TooMany) (defScope i_TooMany) .none kV_i_TooMany dc_i_TooMany pm_i_TooMany an_i_TooMany cd_i_TooMany ct_i_TooMany), sl_i_TooMany⟩)
    (c_i_TooMany : PySem.W.codeIn K cd_i_TooMany "TooMany.__init__" = true) (k_i_TooMany : PySem.W.keepIn K (.ref j_TooMany) = true)
    (a_Full : PySem.W.nsIn K mainGlobals "Full" = some (some (.ref C_Full)))
    (xl_Full : K.lookup C_Full = some (excClassObj nm_Full q_Full C_Full N_Full bs_Full bm_Full true sn_Full sub_Full ab_Full col_Full dd_Full k0_Full k1_Full k2_Full k3_Full k5_Full "ValueError.__new__")) (rb_Full : PySem.HandSPX.refsVE bm_Full = true)
    (eb_Full : excB K C_Full = true) (fb_Full : fldB K C_Full ["limit"] = true)
    (ai_Full : PySem.W.findIn K (.ref C_Full) "__init__" = some (some (.ref j_Full))) (ti_Full : PySem.W.typeIn K (.ref j_Full) = some (.type "function"))
    (l_i_Full : K.lookup j_Full = some ⟨oc_i_Full, od_i_Full, .func (PySem.W.fnOf "__init__" "Full.__init__" (defArgs i_Full) (defBody i_Full) (defScope i_Full) .none kV_i_Full dc_i_Full pm_i_Full an_i_Full cd_i_Full ct_i_Full), sl_i_Full⟩)
    (c_i_Full : PySem.W.codeIn K cd_i_Full "Full.__init__" = true) (k_i_Full : PySem.W.keepIn K (.ref j_Full) = true)
    (a_NoEntry : PySem.W.nsIn K mainGlobals "NoEntry" = some (some (.ref C_NoEntry)))
    (xl_NoEntry : K.lookup C_NoEntry = some (excClassObj nm_NoEntry q_NoEntry C_NoEntry N_NoEntry bs_NoEntry bm_NoEntry true sn_NoEntry sub_NoEntry ab_NoEntry col_NoEntry dd_NoEntry k0_NoEntry k1_NoEntry k2_NoEntry k3_NoEntry k5_NoEntry "ValueError.__new__")) (rb_NoEntry : PySem.HandSPX.refsVE bm_NoEntry = true)
    (eb_NoEntry : excB K C_NoEntry = true) (fb_NoEntry : fldB K C_NoEntry ["many"] = true)
    (ai_NoEntry : PySem.W.findIn K (.ref C_NoEntry) "__init__" = some (some (.ref j_NoEntry))) (ti_NoEntry : PySem.W.typeIn K (.ref j_NoEntry) = some (.type "function"))
    (l_i_NoEntry : K.lookup j_NoEntry = some ⟨oc_i_NoEntry, od_i_NoEntry, .func (PySem.W.fnOf "__init__" "NoEntry.__init__" (defArgs i_NoEntry) (defBody i_NoEntry) (defScope i_NoEntry) .none kV_i_NoEntry dc_i_NoEntry pm_i_NoEntry an_i_NoEntry cd_i_NoEntry ct_i_NoEntry), sl_i_NoEntry⟩)
    (c_i_NoEntry : PySem.W.codeIn K cd_i_NoEntry "NoEntry.__init__" = true) (k_i_NoEntry : PySem.W.keepIn K (.ref j_NoEntry) = true)
    (a_NoUse : PySem.W.nsIn K mainGlobals "NoUse" = some (some (.ref C_NoUse)))
    (xl_NoUse : K.lookup C_NoUse = some (excClassObj nm_NoUse q_NoUse C_NoUse N_NoUse bs_NoUse bm_NoUse true sn_NoUse sub_NoUse ab_NoUse col_NoUse dd_NoUse k0_NoUse k1_NoUse k2_NoUse k3_NoUse k5_NoUse "ValueError.__new__")) (rb_NoUse : PySem.HandSPX.refsVE bm_NoUse = true)
    (eb_NoUse : excB K C_NoUse = true) (fb_NoUse : fldB K C_NoUse [] = true)
    (ai_NoUse : PySem.W.findIn K (.ref C_NoUse) "__init__" = some (some (.ref j_NoUse))) (ti_NoUse : PySem.W.typeIn K (.ref j_NoUse) = some (.type "function"))
    (l_i_NoUse : K.lookup j_NoUse = some ⟨oc_i_NoUse, od_i_NoUse, .func (PySem.W.fnOf "__init__" "NoUse.__init__" (defArgs i_NoUse) (defBody i_NoUse) (defScope i_NoUse) .none kV_i_NoUse dc_i_NoUse pm_i_NoUse an_i_NoUse cd_i_NoUse ct_i_NoUse), sl_i_NoUse⟩)
    (c_i_NoUse : PySem.W.codeIn K cd_i_NoUse "NoUse.__init__" = true) (k_i_NoUse : PySem.W.keepIn K (.ref j_NoUse) = true)
    (a_Unlike : PySem.W.nsIn K mainGlobals "Unlike" = some (some (.ref C_Unlike)))
    (xl_Unlike : K.lookup C_Unlike = some (excClassObj nm_Unlike q_Unlike C_Unlike N_Unlike bs_Unlike bm_Unlike true sn_Unlike sub_Unlike ab_Unlike col_Unlike dd_Unlike k0_Unlike k1_Unlike k2_Unlike k3_Unlike k5_Unlike "ValueError.__new__")) (rb_Unlike : PySem.HandSPX.refsVE bm_Unlike = true)
    (eb_Unlike : excB K C_Unlike = true) (fb_Unlike : fldB K C_Unlike [] = true)
    (ai_Unlike : PySem.W.findIn K (.ref C_Unlike) "__init__" = some (some (.ref j_Unlike))) (ti_Unlike : PySem.W.typeIn K (.ref j_Unlike) = some (.type "function"))
    (l_i_Unlike : K.lookup j_Unlike = some ⟨oc_i_Unlike, od_i_Unlike, .func (PySem.W.fnOf "__init__" "Unlike.__init__" (defArgs i_Unlike) (defBody i_Unlike) (defScope i_Unlike) .none kV_i_Unlike dc_i_Unlike pm_i_Unlike an_i_Unlike cd_i_Unlike ct_i_Unlike), sl_i_Unlike⟩)
    (c_i_Unlike : PySem.W.codeIn K cd_i_Unlike "Unlike.__init__" = true) (k_i_Unlike : PySem.W.keepIn K (.ref j_Unlike) = true)
    (a_NoMove : PySem.W.nsIn K mainGlobals "NoMove" = some (some (.ref C_NoMove)))
    (xl_NoMove : K.lookup C_NoMove = some (excClassObj nm_NoMove q_NoMove C_NoMove N_NoMove bs_NoMove bm_NoMove true sn_NoMove sub_NoMove ab_NoMove col_NoMove dd_NoMove k0_NoMove k1_NoMove k2_NoMove k3_NoMove k5_NoMove "ValueError.__new__")) (rb_NoMove : PySem.HandSPX.refsVE bm_NoMove = true)
    (eb_NoMove : excB K C_NoMove = true) (fb_NoMove : fldB K C_NoMove [] = true)
    (ai_NoMove : PySem.W.findIn K (.ref C_NoMove) "__init__" = some (some (.ref j_NoMove))) (ti_NoMove : PySem.W.typeIn K (.ref j_NoMove) = some (.type "function"))
    (l_i_NoMove : K.lookup j_NoMove = some ⟨oc_i_NoMove, od_i_NoMove, .func (PySem.W.fnOf "__init__" "NoMove.__init__" (defArgs i_NoMove) (defBody i_NoMove) (defScope i_NoMove) .none kV_i_NoMove dc_i_NoMove pm_i_NoMove an_i_NoMove cd_i_NoMove ct_i_NoMove), sl_i_NoMove⟩)
    (c_i_NoMove : PySem.W.codeIn K cd_i_NoMove "NoMove.__init__" = true) (k_i_NoMove : PySem.W.keepIn K (.ref j_NoMove) = true)
    (a_Unfit : PySem.W.nsIn K mainGlobals "Unfit" = some (some (.ref C_Unfit)))
    (xl_Unfit : K.lookup C_Unfit = some (excClassObj nm_Unfit q_Unfit C_Unfit N_Unfit bs_Unfit bm_Unfit true sn_Unfit sub_Unfit ab_Unfit col_Unfit dd_Unfit k0_Unfit k1_Unfit k2_Unfit k3_Unfit k5_Unfit "ValueError.__new__")) (rb_Unfit : PySem.HandSPX.refsVE bm_Unfit = true)
    (eb_Unfit : excB K C_Unfit = true) (fb_Unfit : fldB K C_Unfit [] = true)
    (ai_Unfit : PySem.W.findIn K (.ref C_Unfit) "__init__" = some (some (.ref j_Unfit))) (ti_Unfit : PySem.W.typeIn K (.ref j_Unfit) = some (.type "function"))
    (l_i_Unfit : K.lookup j_Unfit = some ⟨oc_i_Unfit, od_i_Unfit, .func (PySem.W.fnOf "__init__" "Unfit.__init__" (defArgs i_Unfit) (defBody i_Unfit) (defScope i_Unfit) .none kV_i_Unfit dc_i_Unfit pm_i_Unfit an_i_Unfit cd_i_Unfit ct_i_Unfit), sl_i_Unfit⟩)
    (c_i_Unfit : PySem.W.codeIn K cd_i_Unfit "Unfit.__init__" = true) (k_i_Unfit : PySem.W.keepIn K (.ref j_Unfit) = true)
    (a_Nothing : PySem.W.nsIn K mainGlobals "Nothing" = some (some (.ref C_Nothing)))
    (xl_Nothing : K.lookup C_Nothing = some (excClassObj nm_Nothing q_Nothing C_Nothing N_Nothing bs_Nothing bm_Nothing true sn_Nothing sub_Nothing ab_Nothing col_Nothing dd_Nothing k0_Nothing k1_Nothing k2_Nothing k3_Nothing k5_Nothing "ValueError.__new__")) (rb_Nothing : PySem.HandSPX.refsVE bm_Nothing = true)
    (eb_Nothing : excB K C_Nothing = true) (fb_Nothing : fldB K C_Nothing [] = true)
    (ai_Nothing : PySem.W.findIn K (.ref C_Nothing) "__init__" = some (some (.ref j_Nothing))) (ti_Nothing : PySem.W.typeIn K (.ref j_Nothing) = some (.type "function"))
    (l_i_Nothing : K.lookup j_Nothing = some ⟨oc_i_Nothing, od_i_Nothing, .func (PySem.W.fnOf "__init__" "Nothing.__init__" (defArgs i_Nothing) (defBody i_Nothing) (defScope i_Nothing) .none kV_i_Nothing dc_i_Nothing pm_i_Nothing an_i_Nothing cd_i_Nothing ct_i_Nothing), sl_i_Nothing⟩)
    (c_i_Nothing : PySem.W.codeIn K cd_i_Nothing "Nothing.__init__" = true) (k_i_Nothing : PySem.W.keepIn K (.ref j_Nothing) = true)
    (a_NoText : PySem.W.nsIn K mainGlobals "NoText" = some (some (.ref C_NoText)))
    (xl_NoText : K.lookup C_NoText = some (excClassObj nm_NoText q_NoText C_NoText N_NoText bs_NoText bm_NoText true sn_NoText sub_NoText ab_NoText col_NoText dd_NoText k0_NoText k1_NoText k2_NoText k3_NoText k5_NoText "ValueError.__new__")) (rb_NoText : PySem.HandSPX.refsVE bm_NoText = true)
    (eb_NoText : excB K C_NoText = true) (fb_NoText : fldB K C_NoText [] = true)
    (ai_NoText : PySem.W.findIn K (.ref C_NoText) "__init__" = some (some (.ref j_NoText))) (ti_NoText : PySem.W.typeIn K (.ref j_NoText) = some (.type "function"))
    (l_i_NoText : K.lookup j_NoText = some ⟨oc_i_NoText, od_i_NoText, .func (PySem.W.fnOf "__init__" "NoText.__init__" (defArgs i_NoText) (defBody i_NoText) (defScope i_NoText) .none kV_i_NoText dc_i_NoText pm_i_NoText an_i_NoText cd_i_NoText ct_i_NoText), sl_i_NoText⟩)
    (c_i_NoText : PySem.W.codeIn K cd_i_NoText "NoText.__init__" = true) (k_i_NoText : PySem.W.keepIn K (.ref j_NoText) = true)
    (a_NoCommand : PySem.W.nsIn K mainGlobals "NoCommand" = some (some (.ref C_NoCommand)))
    (xl_NoCommand : K.lookup C_NoCommand = some (excClassObj nm_NoCommand q_NoCommand C_NoCommand N_NoCommand bs_NoCommand bm_NoCommand true sn_NoCommand sub_NoCommand ab_NoCommand col_NoCommand dd_NoCommand k0_NoCommand k1_NoCommand k2_NoCommand k3_NoCommand k5_NoCommand "ValueError.__new__")) (rb_NoCommand : PySem.HandSPX.refsVE bm_NoCommand = true)
    (eb_NoCommand : excB K C_NoCommand = true) (fb_NoCommand : fldB K C_NoCommand [] = true)
    (ai_NoCommand : PySem.W.findIn K (.ref C_NoCommand) "__init__" = some (some (.ref j_NoCommand))) (ti_NoCommand : PySem.W.typeIn K (.ref j_NoCommand) = some (.type "function"))
    (l_i_NoCommand : K.lookup j_NoCommand = some ⟨oc_i_NoCommand, od_i_NoCommand, .func (PySem.W.fnOf "__init__" "NoCommand.__init__" (defArgs i_NoCommand) (defBody i_NoCommand) (defScope i_NoCommand) .none kV_i_NoCommand dc_i_NoCommand pm_i_NoCommand an_i_NoCommand cd_i_NoCommand ct_i_NoCommand), sl_i_NoCommand⟩)
    (c_i_NoCommand : PySem.W.codeIn K cd_i_NoCommand "NoCommand.__init__" = true) (k_i_NoCommand : PySem.W.keepIn K (.ref j_NoCommand) = true)
    (a_bag : PySem.W.nsIn K mainGlobals "_law_bag" = some (some (.ref f_bag)))
    (l_bag : K.lookup f_bag = some ⟨oc_bag, od_bag, .func (PySem.W.fnOf "_law_bag" "_law_bag" (defArgs sBag) (defBody sBag) (defScope sBag) .none kV_bag dc_bag pm_bag an_bag cd_bag ct_bag), sl_bag⟩)
    (c_bag : PySem.W.codeIn K cd_bag "_law_bag" = true) (k_bag : PySem.W.keepIn K (.ref f_bag) = true)
    (a_take : PySem.W.nsIn K mainGlobals "_law_take" = some (some (.ref f_take)))
    (l_take : K.lookup f_take = some ⟨oc_take, od_take, .func (PySem.W.fnOf "_law_take" "_law_take" (defArgs sTake) (defBody sTake) (defScope sTake) .none kV_take dc_take pm_take an_take cd_take ct_take), sl_take⟩)
    (c_take : PySem.W.codeIn K cd_take "_law_take" = true) (k_take : PySem.W.keepIn K (.ref f_take) = true)
    (a_alike : PySem.W.nsIn K mainGlobals "_law_alike" = some (some (.ref f_alike)))
    (l_alike : K.lookup f_alike = some ⟨oc_alike, od_alike, .func (PySem.W.fnOf "_law_alike" "_law_alike" (defArgs sAlike) (defBody sAlike) (defScope sAlike) .none kV_alike dc_alike pm_alike an_alike cd_alike ct_alike), sl_alike⟩)
    (c_alike : PySem.W.codeIn K cd_alike "_law_alike" = true) (k_alike : PySem.W.keepIn K (.ref f_alike) = true)
    (a_thing : PySem.W.nsIn K mainGlobals "_law_thing" = some (some (.ref f_thing)))
    (l_thing : K.lookup f_thing = some ⟨oc_thing, od_thing, .func (PySem.W.fnOf "_law_thing" "_law_thing" (defArgs s_thing) (defBody s_thing) (defScope s_thing) .none kV_thing dc_thing pm_thing an_thing cd_thing ct_thing), sl_thing⟩)
    (c_thing : PySem.W.codeIn K cd_thing "_law_thing" = true) (k_thing : PySem.W.keepIn K (.ref f_thing) = true)
    (a_errors : PySem.W.nsIn K mainGlobals "_law_errors" = some (some (.ref f_errors)))
    (l_errors : K.lookup f_errors = some ⟨oc_errors, od_errors, .func (PySem.W.fnOf "_law_errors" "_law_errors" (defArgs s_errors) (defBody s_errors) (defScope s_errors) .none kV_errors dc_errors pm_errors an_errors cd_errors ct_errors), sl_errors⟩)
    (c_errors : PySem.W.codeIn K cd_errors "_law_errors" = true) (k_errors : PySem.W.keepIn K (.ref f_errors) = true)
    (a_classes : PySem.W.nsIn K mainGlobals "_law_classes" = some (some (.ref f_classes)))
    (l_classes : K.lookup f_classes = some ⟨oc_classes, od_classes, .func (PySem.W.fnOf "_law_classes" "_law_classes" (defArgs s_classes) (defBody s_classes) (defScope s_classes) .none kV_classes dc_classes pm_classes an_classes cd_classes ct_classes), sl_classes⟩)
    (c_classes : PySem.W.codeIn K cd_classes "_law_classes" = true) (k_classes : PySem.W.keepIn K (.ref f_classes) = true)
    (a_fields : PySem.W.nsIn K mainGlobals "_law_fields" = some (some (.ref f_fields)))
    (l_fields : K.lookup f_fields = some ⟨oc_fields, od_fields, .func (PySem.W.fnOf "_law_fields" "_law_fields" (defArgs s_fields) (defBody s_fields) (defScope s_fields) .none kV_fields dc_fields pm_fields an_fields cd_fields ct_fields), sl_fields⟩)
    (c_fields : PySem.W.codeIn K cd_fields "_law_fields" = true) (k_fields : PySem.W.keepIn K (.ref f_fields) = true)
    (a_law : PySem.W.nsIn K mainGlobals "law" = some (some (.ref f_law)))
    (l_law : K.lookup f_law = some ⟨oc_law, od_law, .func (PySem.W.fnOf "law" "law" (defArgs s_law) (defBody s_law) (defScope s_law) .none kV_law dc_law pm_law an_law cd_law ct_law), sl_law⟩)
    (c_law : PySem.W.codeIn K cd_law "law" = true) (k_law : PySem.W.keepIn K (.ref f_law) = true)
    (z_len : PySem.W.nsIn K mainGlobals "len" = some none)
    (z_int : PySem.W.nsIn K mainGlobals "int" = some none)
    (z_abs : PySem.W.nsIn K mainGlobals "abs" = some none)
    (z_repr : PySem.W.nsIn K mainGlobals "repr" = some none)
    (z_isinstance : PySem.W.nsIn K mainGlobals "isinstance" = some none)
    (z_bool : PySem.W.nsIn K mainGlobals "bool" = some none)
    (z_str : PySem.W.nsIn K mainGlobals "str" = some none)
    (z_all : PySem.W.nsIn K mainGlobals "all" = some none)
    (z_range : PySem.W.nsIn K mainGlobals "range" = some none)
    (z_enumerate : PySem.W.nsIn K mainGlobals "enumerate" = some none)
    (z_tuple : PySem.W.nsIn K mainGlobals "tuple" = some none)
    (z_list : PySem.W.nsIn K mainGlobals "list" = some none)
    (z_dict : PySem.W.nsIn K mainGlobals "dict" = some none)
    (z_ValueError : PySem.W.nsIn K mainGlobals "ValueError" = some none)
    (aP : PySem.W.nsIn K mainGlobals "PlanError" = some (some (.ref cP))) (qP : PySem.W.excIn K cP [.type "ValueError", .type "Exception", .type "BaseException", .type "object"] "ValueError.__new__" = true) (eP : excB K cP = true)
    (isa : isaB K (fun i => [C_Parted, C_Ringed, C_BadRow, C_Hidden, C_NoSite, C_Wrong, C_BadKey, C_BadReference, C_BadMade, C_Unknown, C_NotFixed, C_Missing, C_BadItem, C_BadShown, C_BadMark, C_Loose, C_NoNumber, C_Twice, C_TooMany, C_Full, C_NoEntry, C_NoUse, C_Unlike, C_NoMove, C_Unfit, C_Nothing, C_NoText, C_NoCommand].getD i 0) cP = true)
    : ∃ fd : FuncData, (∀ (s : Shared) (v : Value), BindsTo s fd ⟨[v], []⟩ [("_law_script", v)]) ∧ ∀ bs : Heap, SM bs → K.In bs → bs.Ns mainGlobals mg → FnG l.prog w K mg bs 4 fa fd ["_law_script"] (spLaw K) := by
  have e := hfa.symm.trans (PySem.W.mg_of X G a_law)
  cases e
  have T : Blt mg := ⟨PySem.W.mg_none_of X G z_len, PySem.W.mg_none_of X G z_int, PySem.W.mg_none_of X G z_abs, PySem.W.mg_none_of X G z_repr, PySem.W.mg_none_of X G z_isinstance, PySem.W.mg_none_of X G z_bool, PySem.W.mg_none_of X G z_str, PySem.W.mg_none_of X G z_all, PySem.W.mg_none_of X G z_range, PySem.W.mg_none_of X G z_enumerate, PySem.W.mg_none_of X G z_tuple, PySem.W.mg_none_of X G z_list, PySem.W.mg_none_of X G z_dict, PySem.W.mg_none_of X G z_ValueError⟩
  have F_bag := fun_mk (st := sBag) l_bag c_bag k_bag
  have b_bag := F_bag.binds (ps := ["_law_script"]) fun _ _ _ _ _ _ us hl => match us, hl with | [_], _ => rfl
  have m_bag := PySem.W.mg_of X G a_bag
  have F_take := fun_mk (st := sTake) l_take c_take k_take
  have b_take := F_take.binds (ps := ["_law_bag_here", "_law_most"]) fun _ _ _ _ _ _ us hl => match us, hl with | [_, _], _ => rfl
  have m_take := PySem.W.mg_of X G a_take
  have F_alike := fun_mk (st := sAlike) l_alike c_alike k_alike
  have b_alike := F_alike.binds (ps := ["_law_one", "_law_other"]) fun _ _ _ _ _ _ us hl => match us, hl with | [_, _], _ => rfl
  have m_alike := PySem.W.mg_of X G a_alike
  have F_thing := fun_mk (st := s_thing) l_thing c_thing k_thing
  have b_thing := F_thing.binds (ps := ["_law_bag_here"]) fun _ _ _ _ _ _ us hl => match us, hl with | [_], _ => rfl
  have m_thing := PySem.W.mg_of X G a_thing
  have F_errors := fun_mk (st := s_errors) l_errors c_errors k_errors
  have b_errors := F_errors.binds (ps := ["_law_one", "_law_two", "_law_three"]) fun _ _ _ _ _ _ us hl => match us, hl with | [_, _, _], _ => rfl
  have m_errors := PySem.W.mg_of X G a_errors
  have F_classes := fun_mk (st := s_classes) l_classes c_classes k_classes
  have b_classes := F_classes.binds (ps := ["_law_e"]) fun _ _ _ _ _ _ us hl => match us, hl with | [_], _ => rfl
  have m_classes := PySem.W.mg_of X G a_classes
  have F_fields := fun_mk (st := s_fields) l_fields c_fields k_fields
  have b_fields := F_fields.binds (ps := ["_law_some"]) fun _ _ _ _ _ _ us hl => match us, hl with | [_], _ => rfl
  have m_fields := PySem.W.mg_of X G a_fields
  have F_law := fun_mk (st := s_law) l_law c_law k_law
  obtain ⟨ccP, _, _, kP⟩ := excB_ok eP
  have g_Parted := PySem.W.mg_of X G a_Parted
  obtain ⟨cc_Parted, sa_Parted, ty_Parted, kc_Parted⟩ := excB_ok eb_Parted
  have O_Parted : OexC K C_Parted := ⟨⟨nm_Parted, q_Parted, N_Parted, bs_Parted, bm_Parted, sn_Parted, sub_Parted, ab_Parted, col_Parted, dd_Parted, k0_Parted, k1_Parted, k2_Parted, k3_Parted, k5_Parted, xl_Parted, rb_Parted⟩, sa_Parted, cc_Parted.hs, ty_Parted, kc_Parted⟩
  have F_i_Parted := fun_mk (st := i_Parted) l_i_Parted c_i_Parted k_i_Parted
  have b_i_Parted := F_i_Parted.binds (ps := ["self", "stream", "index", "word"]) fun _ _ _ _ _ _ us hl => match us, hl with | [_, _, _, _], _ => rfl
  have f_0_stream : PySem.W.findIn K (.ref C_Parted) "stream" = some none := fldB_ok fb_Parted (by simp)
  have f_0_index : PySem.W.findIn K (.ref C_Parted) "index" = some none := fldB_ok fb_Parted (by simp)
  have f_0_word : PySem.W.findIn K (.ref C_Parted) "word" = some none := fldB_ok fb_Parted (by simp)
  have g_Ringed := PySem.W.mg_of X G a_Ringed
  obtain ⟨cc_Ringed, sa_Ringed, ty_Ringed, kc_Ringed⟩ := excB_ok eb_Ringed
  have O_Ringed : OexC K C_Ringed := ⟨⟨nm_Ringed, q_Ringed, N_Ringed, bs_Ringed, bm_Ringed, sn_Ringed, sub_Ringed, ab_Ringed, col_Ringed, dd_Ringed, k0_Ringed, k1_Ringed, k2_Ringed, k3_Ringed, k5_Ringed, xl_Ringed, rb_Ringed⟩, sa_Ringed, cc_Ringed.hs, ty_Ringed, kc_Ringed⟩
  have F_i_Ringed := fun_mk (st := i_Ringed) l_i_Ringed c_i_Ringed k_i_Ringed
  have b_i_Ringed := F_i_Ringed.binds (ps := ["self", "table", "column"]) fun _ _ _ _ _ _ us hl => match us, hl with | [_, _, _], _ => rfl
  have f_1_table : PySem.W.findIn K (.ref C_Ringed) "table" = some none := fldB_ok fb_Ringed (by simp)
  have f_1_column : PySem.W.findIn K (.ref C_Ringed) "column" = some none := fldB_ok fb_Ringed (by simp)
  have g_BadRow := PySem.W.mg_of X G a_BadRow
  obtain ⟨cc_BadRow, sa_BadRow, ty_BadRow, kc_BadRow⟩ := excB_ok eb_BadRow
  have O_BadRow : OexC K C_BadRow := ⟨⟨nm_BadRow, q_BadRow, N_BadRow, bs_BadRow, bm_BadRow, sn_BadRow, sub_BadRow, ab_BadRow, col_BadRow, dd_BadRow, k0_BadRow, k1_BadRow, k2_BadRow, k3_BadRow, k5_BadRow, xl_BadRow, rb_BadRow⟩, sa_BadRow, cc_BadRow.hs, ty_BadRow, kc_BadRow⟩
  have F_i_BadRow := fun_mk (st := i_BadRow) l_i_BadRow c_i_BadRow k_i_BadRow
  have b_i_BadRow := F_i_BadRow.binds (ps := ["self", "table", "at"]) fun _ _ _ _ _ _ us hl => match us, hl with | [_, _, _], _ => rfl
  have f_2_table : PySem.W.findIn K (.ref C_BadRow) "table" = some none := fldB_ok fb_BadRow (by simp)
  have f_2_at : PySem.W.findIn K (.ref C_BadRow) "at" = some none := fldB_ok fb_BadRow (by simp)
  have g_Hidden := PySem.W.mg_of X G a_Hidden
  obtain ⟨cc_Hidden, sa_Hidden, ty_Hidden, kc_Hidden⟩ := excB_ok eb_Hidden
  have O_Hidden : OexC K C_Hidden := ⟨⟨nm_Hidden, q_Hidden, N_Hidden, bs_Hidden, bm_Hidden, sn_Hidden, sub_Hidden, ab_Hidden, col_Hidden, dd_Hidden, k0_Hidden, k1_Hidden, k2_Hidden, k3_Hidden, k5_Hidden, xl_Hidden, rb_Hidden⟩, sa_Hidden, cc_Hidden.hs, ty_Hidden, kc_Hidden⟩
  have F_i_Hidden := fun_mk (st := i_Hidden) l_i_Hidden c_i_Hidden k_i_Hidden
  have b_i_Hidden := F_i_Hidden.binds (ps := ["self", "place", "loop"]) fun _ _ _ _ _ _ us hl => match us, hl with | [_, _, _], _ => rfl
  have f_3_place : PySem.W.findIn K (.ref C_Hidden) "place" = some none := fldB_ok fb_Hidden (by simp)
  have f_3_loop : PySem.W.findIn K (.ref C_Hidden) "loop" = some none := fldB_ok fb_Hidden (by simp)
  have g_NoSite := PySem.W.mg_of X G a_NoSite
  obtain ⟨cc_NoSite, sa_NoSite, ty_NoSite, kc_NoSite⟩ := excB_ok eb_NoSite
  have O_NoSite : OexC K C_NoSite := ⟨⟨nm_NoSite, q_NoSite, N_NoSite, bs_NoSite, bm_NoSite, sn_NoSite, sub_NoSite, ab_NoSite, col_NoSite, dd_NoSite, k0_NoSite, k1_NoSite, k2_NoSite, k3_NoSite, k5_NoSite, xl_NoSite, rb_NoSite⟩, sa_NoSite, cc_NoSite.hs, ty_NoSite, kc_NoSite⟩
  have F_i_NoSite := fun_mk (st := i_NoSite) l_i_NoSite c_i_NoSite k_i_NoSite
  have b_i_NoSite := F_i_NoSite.binds (ps := ["self", "stream", "index"]) fun _ _ _ _ _ _ us hl => match us, hl with | [_, _, _], _ => rfl
  have f_4_stream : PySem.W.findIn K (.ref C_NoSite) "stream" = some none := fldB_ok fb_NoSite (by simp)
  have f_4_index : PySem.W.findIn K (.ref C_NoSite) "index" = some none := fldB_ok fb_NoSite (by simp)
  have g_Wrong := PySem.W.mg_of X G a_Wrong
  obtain ⟨cc_Wrong, sa_Wrong, ty_Wrong, kc_Wrong⟩ := excB_ok eb_Wrong
  have O_Wrong : OexC K C_Wrong := ⟨⟨nm_Wrong, q_Wrong, N_Wrong, bs_Wrong, bm_Wrong, sn_Wrong, sub_Wrong, ab_Wrong, col_Wrong, dd_Wrong, k0_Wrong, k1_Wrong, k2_Wrong, k3_Wrong, k5_Wrong, xl_Wrong, rb_Wrong⟩, sa_Wrong, cc_Wrong.hs, ty_Wrong, kc_Wrong⟩
  have F_i_Wrong := fun_mk (st := i_Wrong) l_i_Wrong c_i_Wrong k_i_Wrong
  have b_i_Wrong := F_i_Wrong.binds (ps := ["self", "place"]) fun _ _ _ _ _ _ us hl => match us, hl with | [_, _], _ => rfl
  have f_5_place : PySem.W.findIn K (.ref C_Wrong) "place" = some none := fldB_ok fb_Wrong (by simp)
  have g_BadKey := PySem.W.mg_of X G a_BadKey
  obtain ⟨cc_BadKey, sa_BadKey, ty_BadKey, kc_BadKey⟩ := excB_ok eb_BadKey
  have O_BadKey : OexC K C_BadKey := ⟨⟨nm_BadKey, q_BadKey, N_BadKey, bs_BadKey, bm_BadKey, sn_BadKey, sub_BadKey, ab_BadKey, col_BadKey, dd_BadKey, k0_BadKey, k1_BadKey, k2_BadKey, k3_BadKey, k5_BadKey, xl_BadKey, rb_BadKey⟩, sa_BadKey, cc_BadKey.hs, ty_BadKey, kc_BadKey⟩
  have F_i_BadKey := fun_mk (st := i_BadKey) l_i_BadKey c_i_BadKey k_i_BadKey
  have b_i_BadKey := F_i_BadKey.binds (ps := ["self", "table"]) fun _ _ _ _ _ _ us hl => match us, hl with | [_, _], _ => rfl
  have f_6_table : PySem.W.findIn K (.ref C_BadKey) "table" = some none := fldB_ok fb_BadKey (by simp)
  have g_BadReference := PySem.W.mg_of X G a_BadReference
  obtain ⟨cc_BadReference, sa_BadReference, ty_BadReference, kc_BadReference⟩ := excB_ok eb_BadReference
  have O_BadReference : OexC K C_BadReference := ⟨⟨nm_BadReference, q_BadReference, N_BadReference, bs_BadReference, bm_BadReference, sn_BadReference, sub_BadReference, ab_BadReference, col_BadReference, dd_BadReference, k0_BadReference, k1_BadReference, k2_BadReference, k3_BadReference, k5_BadReference, xl_BadReference, rb_BadReference⟩, sa_BadReference, cc_BadReference.hs, ty_BadReference, kc_BadReference⟩
  have F_i_BadReference := fun_mk (st := i_BadReference) l_i_BadReference c_i_BadReference k_i_BadReference
  have b_i_BadReference := F_i_BadReference.binds (ps := ["self", "at"]) fun _ _ _ _ _ _ us hl => match us, hl with | [_, _], _ => rfl
  have f_7_at : PySem.W.findIn K (.ref C_BadReference) "at" = some none := fldB_ok fb_BadReference (by simp)
  have g_BadMade := PySem.W.mg_of X G a_BadMade
  obtain ⟨cc_BadMade, sa_BadMade, ty_BadMade, kc_BadMade⟩ := excB_ok eb_BadMade
  have O_BadMade : OexC K C_BadMade := ⟨⟨nm_BadMade, q_BadMade, N_BadMade, bs_BadMade, bm_BadMade, sn_BadMade, sub_BadMade, ab_BadMade, col_BadMade, dd_BadMade, k0_BadMade, k1_BadMade, k2_BadMade, k3_BadMade, k5_BadMade, xl_BadMade, rb_BadMade⟩, sa_BadMade, cc_BadMade.hs, ty_BadMade, kc_BadMade⟩
  have F_i_BadMade := fun_mk (st := i_BadMade) l_i_BadMade c_i_BadMade k_i_BadMade
  have b_i_BadMade := F_i_BadMade.binds (ps := ["self", "at"]) fun _ _ _ _ _ _ us hl => match us, hl with | [_, _], _ => rfl
  have f_8_at : PySem.W.findIn K (.ref C_BadMade) "at" = some none := fldB_ok fb_BadMade (by simp)
  have g_Unknown := PySem.W.mg_of X G a_Unknown
  obtain ⟨cc_Unknown, sa_Unknown, ty_Unknown, kc_Unknown⟩ := excB_ok eb_Unknown
  have O_Unknown : OexC K C_Unknown := ⟨⟨nm_Unknown, q_Unknown, N_Unknown, bs_Unknown, bm_Unknown, sn_Unknown, sub_Unknown, ab_Unknown, col_Unknown, dd_Unknown, k0_Unknown, k1_Unknown, k2_Unknown, k3_Unknown, k5_Unknown, xl_Unknown, rb_Unknown⟩, sa_Unknown, cc_Unknown.hs, ty_Unknown, kc_Unknown⟩
  have F_i_Unknown := fun_mk (st := i_Unknown) l_i_Unknown c_i_Unknown k_i_Unknown
  have b_i_Unknown := F_i_Unknown.binds (ps := ["self", "name"]) fun _ _ _ _ _ _ us hl => match us, hl with | [_, _], _ => rfl
  have f_9_name : PySem.W.findIn K (.ref C_Unknown) "name" = some none := fldB_ok fb_Unknown (by simp)
  have g_NotFixed := PySem.W.mg_of X G a_NotFixed
  obtain ⟨cc_NotFixed, sa_NotFixed, ty_NotFixed, kc_NotFixed⟩ := excB_ok eb_NotFixed
  have O_NotFixed : OexC K C_NotFixed := ⟨⟨nm_NotFixed, q_NotFixed, N_NotFixed, bs_NotFixed, bm_NotFixed, sn_NotFixed, sub_NotFixed, ab_NotFixed, col_NotFixed, dd_NotFixed, k0_NotFixed, k1_NotFixed, k2_NotFixed, k3_NotFixed, k5_NotFixed, xl_NotFixed, rb_NotFixed⟩, sa_NotFixed, cc_NotFixed.hs, ty_NotFixed, kc_NotFixed⟩
  have F_i_NotFixed := fun_mk (st := i_NotFixed) l_i_NotFixed c_i_NotFixed k_i_NotFixed
  have b_i_NotFixed := F_i_NotFixed.binds (ps := ["self", "name"]) fun _ _ _ _ _ _ us hl => match us, hl with | [_, _], _ => rfl
  have f_10_name : PySem.W.findIn K (.ref C_NotFixed) "name" = some none := fldB_ok fb_NotFixed (by simp)
  have g_Missing := PySem.W.mg_of X G a_Missing
  obtain ⟨cc_Missing, sa_Missing, ty_Missing, kc_Missing⟩ := excB_ok eb_Missing
  have O_Missing : OexC K C_Missing := ⟨⟨nm_Missing, q_Missing, N_Missing, bs_Missing, bm_Missing, sn_Missing, sub_Missing, ab_Missing, col_Missing, dd_Missing, k0_Missing, k1_Missing, k2_Missing, k3_Missing, k5_Missing, xl_Missing, rb_Missing⟩, sa_Missing, cc_Missing.hs, ty_Missing, kc_Missing⟩
  have F_i_Missing := fun_mk (st := i_Missing) l_i_Missing c_i_Missing k_i_Missing
  have b_i_Missing := F_i_Missing.binds (ps := ["self", "name"]) fun _ _ _ _ _ _ us hl => match us, hl with | [_, _], _ => rfl
  have f_11_name : PySem.W.findIn K (.ref C_Missing) "name" = some none := fldB_ok fb_Missing (by simp)
  have g_BadItem := PySem.W.mg_of X G a_BadItem
  obtain ⟨cc_BadItem, sa_BadItem, ty_BadItem, kc_BadItem⟩ := excB_ok eb_BadItem
  have O_BadItem : OexC K C_BadItem := ⟨⟨nm_BadItem, q_BadItem, N_BadItem, bs_BadItem, bm_BadItem, sn_BadItem, sub_BadItem, ab_BadItem, col_BadItem, dd_BadItem, k0_BadItem, k1_BadItem, k2_BadItem, k3_BadItem, k5_BadItem, xl_BadItem, rb_BadItem⟩, sa_BadItem, cc_BadItem.hs, ty_BadItem, kc_BadItem⟩
  have F_i_BadItem := fun_mk (st := i_BadItem) l_i_BadItem c_i_BadItem k_i_BadItem
  have b_i_BadItem := F_i_BadItem.binds (ps := ["self", "at"]) fun _ _ _ _ _ _ us hl => match us, hl with | [_, _], _ => rfl
  have f_12_at : PySem.W.findIn K (.ref C_BadItem) "at" = some none := fldB_ok fb_BadItem (by simp)
  have g_BadShown := PySem.W.mg_of X G a_BadShown
  obtain ⟨cc_BadShown, sa_BadShown, ty_BadShown, kc_BadShown⟩ := excB_ok eb_BadShown
  have O_BadShown : OexC K C_BadShown := ⟨⟨nm_BadShown, q_BadShown, N_BadShown, bs_BadShown, bm_BadShown, sn_BadShown, sub_BadShown, ab_BadShown, col_BadShown, dd_BadShown, k0_BadShown, k1_BadShown, k2_BadShown, k3_BadShown, k5_BadShown, xl_BadShown, rb_BadShown⟩, sa_BadShown, cc_BadShown.hs, ty_BadShown, kc_BadShown⟩
  have F_i_BadShown := fun_mk (st := i_BadShown) l_i_BadShown c_i_BadShown k_i_BadShown
  have b_i_BadShown := F_i_BadShown.binds (ps := ["self", "at"]) fun _ _ _ _ _ _ us hl => match us, hl with | [_, _], _ => rfl
  have f_13_at : PySem.W.findIn K (.ref C_BadShown) "at" = some none := fldB_ok fb_BadShown (by simp)
  have g_BadMark := PySem.W.mg_of X G a_BadMark
  obtain ⟨cc_BadMark, sa_BadMark, ty_BadMark, kc_BadMark⟩ := excB_ok eb_BadMark
  have O_BadMark : OexC K C_BadMark := ⟨⟨nm_BadMark, q_BadMark, N_BadMark, bs_BadMark, bm_BadMark, sn_BadMark, sub_BadMark, ab_BadMark, col_BadMark, dd_BadMark, k0_BadMark, k1_BadMark, k2_BadMark, k3_BadMark, k5_BadMark, xl_BadMark, rb_BadMark⟩, sa_BadMark, cc_BadMark.hs, ty_BadMark, kc_BadMark⟩
  have F_i_BadMark := fun_mk (st := i_BadMark) l_i_BadMark c_i_BadMark k_i_BadMark
  have b_i_BadMark := F_i_BadMark.binds (ps := ["self", "name"]) fun _ _ _ _ _ _ us hl => match us, hl with | [_, _], _ => rfl
  have f_14_name : PySem.W.findIn K (.ref C_BadMark) "name" = some none := fldB_ok fb_BadMark (by simp)
  have g_Loose := PySem.W.mg_of X G a_Loose
  obtain ⟨cc_Loose, sa_Loose, ty_Loose, kc_Loose⟩ := excB_ok eb_Loose
  have O_Loose : OexC K C_Loose := ⟨⟨nm_Loose, q_Loose, N_Loose, bs_Loose, bm_Loose, sn_Loose, sub_Loose, ab_Loose, col_Loose, dd_Loose, k0_Loose, k1_Loose, k2_Loose, k3_Loose, k5_Loose, xl_Loose, rb_Loose⟩, sa_Loose, cc_Loose.hs, ty_Loose, kc_Loose⟩
  have F_i_Loose := fun_mk (st := i_Loose) l_i_Loose c_i_Loose k_i_Loose
  have b_i_Loose := F_i_Loose.binds (ps := ["self", "at"]) fun _ _ _ _ _ _ us hl => match us, hl with | [_, _], _ => rfl
  have f_15_at : PySem.W.findIn K (.ref C_Loose) "at" = some none := fldB_ok fb_Loose (by simp)
  have g_NoNumber := PySem.W.mg_of X G a_NoNumber
  obtain ⟨cc_NoNumber, sa_NoNumber, ty_NoNumber, kc_NoNumber⟩ := excB_ok eb_NoNumber
  have O_NoNumber : OexC K C_NoNumber := ⟨⟨nm_NoNumber, q_NoNumber, N_NoNumber, bs_NoNumber, bm_NoNumber, sn_NoNumber, sub_NoNumber, ab_NoNumber, col_NoNumber, dd_NoNumber, k0_NoNumber, k1_NoNumber, k2_NoNumber, k3_NoNumber, k5_NoNumber, xl_NoNumber, rb_NoNumber⟩, sa_NoNumber, cc_NoNumber.hs, ty_NoNumber, kc_NoNumber⟩
  have F_i_NoNumber := fun_mk (st := i_NoNumber) l_i_NoNumber c_i_NoNumber k_i_NoNumber
  have b_i_NoNumber := F_i_NoNumber.binds (ps := ["self", "number"]) fun _ _ _ _ _ _ us hl => match us, hl with | [_, _], _ => rfl
  have f_16_number : PySem.W.findIn K (.ref C_NoNumber) "number" = some none := fldB_ok fb_NoNumber (by simp)
  have g_Twice := PySem.W.mg_of X G a_Twice
  obtain ⟨cc_Twice, sa_Twice, ty_Twice, kc_Twice⟩ := excB_ok eb_Twice
  have O_Twice : OexC K C_Twice := ⟨⟨nm_Twice, q_Twice, N_Twice, bs_Twice, bm_Twice, sn_Twice, sub_Twice, ab_Twice, col_Twice, dd_Twice, k0_Twice, k1_Twice, k2_Twice, k3_Twice, k5_Twice, xl_Twice, rb_Twice⟩, sa_Twice, cc_Twice.hs, ty_Twice, kc_Twice⟩
  have F_i_Twice := fun_mk (st := i_Twice) l_i_Twice c_i_Twice k_i_Twice
  have b_i_Twice := F_i_Twice.binds (ps := ["self", "table"]) fun _ _ _ _ _ _ us hl => match us, hl with | [_, _], _ => rfl
  have f_17_table : PySem.W.findIn K (.ref C_Twice) "table" = some none := fldB_ok fb_Twice (by simp)
  have g_TooMany := PySem.W.mg_of X G a_TooMany
  obtain ⟨cc_TooMany, sa_TooMany, ty_TooMany, kc_TooMany⟩ := excB_ok eb_TooMany
  have O_TooMany : OexC K C_TooMany := ⟨⟨nm_TooMany, q_TooMany, N_TooMany, bs_TooMany, bm_TooMany, sn_TooMany, sub_TooMany, ab_TooMany, col_TooMany, dd_TooMany, k0_TooMany, k1_TooMany, k2_TooMany, k3_TooMany, k5_TooMany, xl_TooMany, rb_TooMany⟩, sa_TooMany, cc_TooMany.hs, ty_TooMany, kc_TooMany⟩
  have F_i_TooMany := fun_mk (st := i_TooMany) l_i_TooMany c_i_TooMany k_i_TooMany
  have b_i_TooMany := F_i_TooMany.binds (ps := ["self", "limit"]) fun _ _ _ _ _ _ us hl => match us, hl with | [_, _], _ => rfl
  have f_18_limit : PySem.W.findIn K (.ref C_TooMany) "limit" = some none := fldB_ok fb_TooMany (by simp)
  have g_Full := PySem.W.mg_of X G a_Full
  obtain ⟨cc_Full, sa_Full, ty_Full, kc_Full⟩ := excB_ok eb_Full
  have O_Full : OexC K C_Full := ⟨⟨nm_Full, q_Full, N_Full, bs_Full, bm_Full, sn_Full, sub_Full, ab_Full, col_Full, dd_Full, k0_Full, k1_Full, k2_Full, k3_Full, k5_Full, xl_Full, rb_Full⟩, sa_Full, cc_Full.hs, ty_Full, kc_Full⟩
  have F_i_Full := fun_mk (st := i_Full) l_i_Full c_i_Full k_i_Full
  have b_i_Full := F_i_Full.binds (ps := ["self", "limit"]) fun _ _ _ _ _ _ us hl => match us, hl with | [_, _], _ => rfl
  have f_19_limit : PySem.W.findIn K (.ref C_Full) "limit" = some none := fldB_ok fb_Full (by simp)
  have g_NoEntry := PySem.W.mg_of X G a_NoEntry
  obtain ⟨cc_NoEntry, sa_NoEntry, ty_NoEntry, kc_NoEntry⟩ := excB_ok eb_NoEntry
  have O_NoEntry : OexC K C_NoEntry := ⟨⟨nm_NoEntry, q_NoEntry, N_NoEntry, bs_NoEntry, bm_NoEntry, sn_NoEntry, sub_NoEntry, ab_NoEntry, col_NoEntry, dd_NoEntry, k0_NoEntry, k1_NoEntry, k2_NoEntry, k3_NoEntry, k5_NoEntry, xl_NoEntry, rb_NoEntry⟩, sa_NoEntry, cc_NoEntry.hs, ty_NoEntry, kc_NoEntry⟩
  have F_i_NoEntry := fun_mk (st := i_NoEntry) l_i_NoEntry c_i_NoEntry k_i_NoEntry
  have b_i_NoEntry := F_i_NoEntry.binds (ps := ["self", "many"]) fun _ _ _ _ _ _ us hl => match us, hl with | [_, _], _ => rfl
  have f_20_many : PySem.W.findIn K (.ref C_NoEntry) "many" = some none := fldB_ok fb_NoEntry (by simp)
  have g_NoUse := PySem.W.mg_of X G a_NoUse
  obtain ⟨cc_NoUse, sa_NoUse, ty_NoUse, kc_NoUse⟩ := excB_ok eb_NoUse
  have O_NoUse : OexC K C_NoUse := ⟨⟨nm_NoUse, q_NoUse, N_NoUse, bs_NoUse, bm_NoUse, sn_NoUse, sub_NoUse, ab_NoUse, col_NoUse, dd_NoUse, k0_NoUse, k1_NoUse, k2_NoUse, k3_NoUse, k5_NoUse, xl_NoUse, rb_NoUse⟩, sa_NoUse, cc_NoUse.hs, ty_NoUse, kc_NoUse⟩
  have F_i_NoUse := fun_mk (st := i_NoUse) l_i_NoUse c_i_NoUse k_i_NoUse
  have b_i_NoUse := F_i_NoUse.binds (ps := ["self"]) fun _ _ _ _ _ _ us hl => match us, hl with | [_], _ => rfl
  have g_Unlike := PySem.W.mg_of X G a_Unlike
  obtain ⟨cc_Unlike, sa_Unlike, ty_Unlike, kc_Unlike⟩ := excB_ok eb_Unlike
  have O_Unlike : OexC K C_Unlike := ⟨⟨nm_Unlike, q_Unlike, N_Unlike, bs_Unlike, bm_Unlike, sn_Unlike, sub_Unlike, ab_Unlike, col_Unlike, dd_Unlike, k0_Unlike, k1_Unlike, k2_Unlike, k3_Unlike, k5_Unlike, xl_Unlike, rb_Unlike⟩, sa_Unlike, cc_Unlike.hs, ty_Unlike, kc_Unlike⟩
  have F_i_Unlike := fun_mk (st := i_Unlike) l_i_Unlike c_i_Unlike k_i_Unlike
  have b_i_Unlike := F_i_Unlike.binds (ps := ["self"]) fun _ _ _ _ _ _ us hl => match us, hl with | [_], _ => rfl
  have g_NoMove := PySem.W.mg_of X G a_NoMove
  obtain ⟨cc_NoMove, sa_NoMove, ty_NoMove, kc_NoMove⟩ := excB_ok eb_NoMove
  have O_NoMove : OexC K C_NoMove := ⟨⟨nm_NoMove, q_NoMove, N_NoMove, bs_NoMove, bm_NoMove, sn_NoMove, sub_NoMove, ab_NoMove, col_NoMove, dd_NoMove, k0_NoMove, k1_NoMove, k2_NoMove, k3_NoMove, k5_NoMove, xl_NoMove, rb_NoMove⟩, sa_NoMove, cc_NoMove.hs, ty_NoMove, kc_NoMove⟩
  have F_i_NoMove := fun_mk (st := i_NoMove) l_i_NoMove c_i_NoMove k_i_NoMove
  have b_i_NoMove := F_i_NoMove.binds (ps := ["self"]) fun _ _ _ _ _ _ us hl => match us, hl with | [_], _ => rfl
  have g_Unfit := PySem.W.mg_of X G a_Unfit
  obtain ⟨cc_Unfit, sa_Unfit, ty_Unfit, kc_Unfit⟩ := excB_ok eb_Unfit
  have O_Unfit : OexC K C_Unfit := ⟨⟨nm_Unfit, q_Unfit, N_Unfit, bs_Unfit, bm_Unfit, sn_Unfit, sub_Unfit, ab_Unfit, col_Unfit, dd_Unfit, k0_Unfit, k1_Unfit, k2_Unfit, k3_Unfit, k5_Unfit, xl_Unfit, rb_Unfit⟩, sa_Unfit, cc_Unfit.hs, ty_Unfit, kc_Unfit⟩
  have F_i_Unfit := fun_mk (st := i_Unfit) l_i_Unfit c_i_Unfit k_i_Unfit
  have b_i_Unfit := F_i_Unfit.binds (ps := ["self"]) fun _ _ _ _ _ _ us hl => match us, hl with | [_], _ => rfl
  have g_Nothing := PySem.W.mg_of X G a_Nothing
  obtain ⟨cc_Nothing, sa_Nothing, ty_Nothing, kc_Nothing⟩ := excB_ok eb_Nothing
  have O_Nothing : OexC K C_Nothing := ⟨⟨nm_Nothing, q_Nothing, N_Nothing, bs_Nothing, bm_Nothing, sn_Nothing, sub_Nothing, ab_Nothing, col_Nothing, dd_Nothing, k0_Nothing, k1_Nothing, k2_Nothing, k3_Nothing, k5_Nothing, xl_Nothing, rb_Nothing⟩, sa_Nothing, cc_Nothing.hs, ty_Nothing, kc_Nothing⟩
  have F_i_Nothing := fun_mk (st := i_Nothing) l_i_Nothing c_i_Nothing k_i_Nothing
  have b_i_Nothing := F_i_Nothing.binds (ps := ["self"]) fun _ _ _ _ _ _ us hl => match us, hl with | [_], _ => rfl
  have g_NoText := PySem.W.mg_of X G a_NoText
  obtain ⟨cc_NoText, sa_NoText, ty_NoText, kc_NoText⟩ := excB_ok eb_NoText
  have O_NoText : OexC K C_NoText := ⟨⟨nm_NoText, q_NoText, N_NoText, bs_NoText, bm_NoText, sn_NoText, sub_NoText, ab_NoText, col_NoText, dd_NoText, k0_NoText, k1_NoText, k2_NoText, k3_NoText, k5_NoText, xl_NoText, rb_NoText⟩, sa_NoText, cc_NoText.hs, ty_NoText, kc_NoText⟩
  have F_i_NoText := fun_mk (st := i_NoText) l_i_NoText c_i_NoText k_i_NoText
  have b_i_NoText := F_i_NoText.binds (ps := ["self"]) fun _ _ _ _ _ _ us hl => match us, hl with | [_], _ => rfl
  have g_NoCommand := PySem.W.mg_of X G a_NoCommand
  obtain ⟨cc_NoCommand, sa_NoCommand, ty_NoCommand, kc_NoCommand⟩ := excB_ok eb_NoCommand
  have O_NoCommand : OexC K C_NoCommand := ⟨⟨nm_NoCommand, q_NoCommand, N_NoCommand, bs_NoCommand, bm_NoCommand, sn_NoCommand, sub_NoCommand, ab_NoCommand, col_NoCommand, dd_NoCommand, k0_NoCommand, k1_NoCommand, k2_NoCommand, k3_NoCommand, k5_NoCommand, xl_NoCommand, rb_NoCommand⟩, sa_NoCommand, cc_NoCommand.hs, ty_NoCommand, kc_NoCommand⟩
  have F_i_NoCommand := fun_mk (st := i_NoCommand) l_i_NoCommand c_i_NoCommand k_i_NoCommand
  have b_i_NoCommand := F_i_NoCommand.binds (ps := ["self"]) fun _ _ _ _ _ _ us hl => match us, hl with | [_], _ => rfl
  have L : Clss K mg (fun i => [C_Parted, C_Ringed, C_BadRow, C_Hidden, C_NoSite, C_Wrong, C_BadKey, C_BadReference, C_BadMade, C_Unknown, C_NotFixed, C_Missing, C_BadItem, C_BadShown, C_BadMark, C_Loose, C_NoNumber, C_Twice, C_TooMany, C_Full, C_NoEntry, C_NoUse, C_Unlike, C_NoMove, C_Unfit, C_Nothing, C_NoText, C_NoCommand].getD i 0) cP := isaB_ok isa (fun j hj => match j, hj with | 0, _ => cc_Parted | 1, _ => cc_Ringed | 2, _ => cc_BadRow | 3, _ => cc_Hidden | 4, _ => cc_NoSite | 5, _ => cc_Wrong | 6, _ => cc_BadKey | 7, _ => cc_BadReference | 8, _ => cc_BadMade | 9, _ => cc_Unknown | 10, _ => cc_NotFixed | 11, _ => cc_Missing | 12, _ => cc_BadItem | 13, _ => cc_BadShown | 14, _ => cc_BadMark | 15, _ => cc_Loose | 16, _ => cc_NoNumber | 17, _ => cc_Twice | 18, _ => cc_TooMany | 19, _ => cc_Full | 20, _ => cc_NoEntry | 21, _ => cc_NoUse | 22, _ => cc_Unlike | 23, _ => cc_NoMove | 24, _ => cc_Unfit | 25, _ => cc_Nothing | 26, _ => cc_NoText | 27, _ => cc_NoCommand | n + 28, h => absurd h (by omega)) ccP (PySem.W.mg_of X G aP) qP kP
  refine ⟨_, fun s v => .of_eq rfl, fun bs sm _ _ => ok_law (c := fun i => [C_Parted, C_Ringed, C_BadRow, C_Hidden, C_NoSite, C_Wrong, C_BadKey, C_BadReference, C_BadMade, C_Unknown, C_NotFixed, C_Missing, C_BadItem, C_BadShown, C_BadMark, C_Loose, C_NoNumber, C_Twice, C_TooMany, C_Full, C_NoEntry, C_NoUse, C_Unlike, C_NoMove, C_Unfit, C_Nothing, C_NoText, C_NoCommand].getD i 0) (cP := cP) F_law T sm L F_bag b_bag m_bag F_take b_take m_take F_alike b_alike m_alike F_thing b_thing m_thing F_errors b_errors m_errors F_classes b_classes m_classes F_fields b_fields m_fields
    ⟨O_Parted, cc_Parted, ai_Parted, ti_Parted, g_Parted, ok_Parted F_i_Parted O_Parted f_0_stream f_0_index f_0_word, b_i_Parted⟩ ⟨O_Ringed, cc_Ringed, ai_Ringed, ti_Ringed, g_Ringed, ok_Ringed F_i_Ringed O_Ringed f_1_table f_1_column, b_i_Ringed⟩ ⟨O_BadRow, cc_BadRow, ai_BadRow, ti_BadRow, g_BadRow, ok_BadRow F_i_BadRow O_BadRow f_2_table f_2_at, b_i_BadRow⟩ ⟨O_Hidden, cc_Hidden, ai_Hidden, ti_Hidden, g_Hidden, ok_Hidden F_i_Hidden O_Hidden f_3_place f_3_loop, b_i_Hidden⟩ ⟨O_NoSite, cc_NoSite, ai_NoSite, ti_NoSite, g_NoSite, ok_NoSite F_i_NoSite O_NoSite f_4_stream f_4_index, b_i_NoSite⟩ ⟨O_Wrong, cc_Wrong, ai_Wrong, ti_Wrong, g_Wrong, ok_Wrong F_i_Wrong O_Wrong f_5_place, b_i_Wrong⟩ ⟨O_BadKey, cc_BadKey, ai_BadKey, ti_BadKey, g_BadKey, ok_BadKey F_i_BadKey O_BadKey f_6_table, b_i_BadKey⟩ ⟨O_BadReference, cc_BadReference, ai_BadReference, ti_BadReference, g_BadReference, ok_BadReference F_i_BadReference O_BadReference f_7_at, b_i_BadReference⟩ ⟨O_BadMade, cc_BadMade, ai_BadMade, ti_BadMade, g_BadMade, ok_BadMade F_i_BadMade O_BadMade f_8_at, b_i_BadMade⟩ ⟨O_Unknown, cc_Unknown, ai_Unknown, ti_Unknown, g_Unknown, ok_Unknown F_i_Unknown O_Unknown f_9_name, b_i_Unknown⟩ ⟨O_NotFixed, cc_NotFixed, ai_NotFixed, ti_NotFixed, g_NotFixed, ok_NotFixed F_i_NotFixed O_NotFixed f_10_name, b_i_NotFixed⟩ ⟨O_Missing, cc_Missing, ai_Missing, ti_Missing, g_Missing, ok_Missing F_i_Missing O_Missing f_11_name, b_i_Missing⟩ ⟨O_BadItem, cc_BadItem, ai_BadItem, ti_BadItem, g_BadItem, ok_BadItem F_i_BadItem O_BadItem f_12_at, b_i_BadItem⟩ ⟨O_BadShown, cc_BadShown, ai_BadShown, ti_BadShown, g_BadShown, ok_BadShown F_i_BadShown O_BadShown f_13_at, b_i_BadShown⟩ ⟨O_BadMark, cc_BadMark, ai_BadMark, ti_BadMark, g_BadMark, ok_BadMark F_i_BadMark O_BadMark f_14_name, b_i_BadMark⟩ ⟨O_Loose, cc_Loose, ai_Loose, ti_Loose, g_Loose, ok_Loose F_i_Loose O_Loose f_15_at, b_i_Loose⟩ ⟨O_NoNumber, cc_NoNumber, ai_NoNumber, ti_NoNumber, g_NoNumber, ok_NoNumber F_i_NoNumber O_NoNumber f_16_number, b_i_NoNumber⟩ ⟨O_Twice, cc_Twice, ai_Twice, ti_Twice, g_Twice, ok_Twice F_i_Twice O_Twice f_17_table, b_i_Twice⟩ ⟨O_TooMany, cc_TooMany, ai_TooMany, ti_TooMany, g_TooMany, ok_TooMany F_i_TooMany O_TooMany f_18_limit, b_i_TooMany⟩ ⟨O_Full, cc_Full, ai_Full, ti_Full, g_Full, ok_Full F_i_Full O_Full f_19_limit, b_i_Full⟩ ⟨O_NoEntry, cc_NoEntry, ai_NoEntry, ti_NoEntry, g_NoEntry, ok_NoEntry F_i_NoEntry O_NoEntry f_20_many, b_i_NoEntry⟩ ⟨O_NoUse, cc_NoUse, ai_NoUse, ti_NoUse, g_NoUse, ok_NoUse F_i_NoUse O_NoUse, b_i_NoUse⟩ ⟨O_Unlike, cc_Unlike, ai_Unlike, ti_Unlike, g_Unlike, ok_Unlike F_i_Unlike O_Unlike, b_i_Unlike⟩ ⟨O_NoMove, cc_NoMove, ai_NoMove, ti_NoMove, g_NoMove, ok_NoMove F_i_NoMove O_NoMove, b_i_NoMove⟩ ⟨O_Unfit, cc_Unfit, ai_Unfit, ti_Unfit, g_Unfit, ok_Unfit F_i_Unfit O_Unfit, b_i_Unfit⟩ ⟨O_Nothing, cc_Nothing, ai_Nothing, ti_Nothing, g_Nothing, ok_Nothing F_i_Nothing O_Nothing, b_i_Nothing⟩ ⟨O_NoText, cc_NoText, ai_NoText, ti_NoText, g_NoText, ok_NoText F_i_NoText O_NoText, b_i_NoText⟩ ⟨O_NoCommand, cc_NoCommand, ai_NoCommand, ti_NoCommand, g_NoCommand, ok_NoCommand F_i_NoCommand O_NoCommand, b_i_NoCommand⟩
    f_0_index f_0_stream f_0_word f_1_column f_1_table f_2_at f_2_table f_3_loop f_3_place f_4_index f_4_stream f_5_place f_6_table f_7_at f_8_at f_9_name f_10_name f_11_name f_12_at f_13_at f_14_name f_15_at f_16_number f_17_table f_18_limit f_19_limit f_20_many
    g_Parted g_Ringed g_BadRow g_Hidden g_NoSite g_Wrong g_BadKey g_BadReference g_BadMade g_Unknown g_NotFixed g_Missing g_BadItem g_BadShown g_BadMark g_Loose g_NoNumber g_Twice g_TooMany g_Full g_NoEntry g_NoUse g_Unlike g_NoMove g_Unfit g_Nothing g_NoText g_NoCommand⟩
end AL
open PySem PySem.W PyProof.Rows
set_option maxRecDepth 100000 in
set_option maxHeartbeats 0 in
theorem PySem.Challenge.cw_plancalls_k10_errors_kept_holds : PySem.Challenge.rw_plancalls_k10_errors_kept.Holds := by
  w_on; o_law; k_head; (case hw => w_witness2)
  k_fill
  refine AL.walkG (l := PySem.Challenge.rw_plancalls_k10_errors_kept) (k := 4) (sp := AL.spLaw) (x := "_law_script") (by decide +kernel) rfl (by decide) rfl ⟨rfl, by decide, by decide⟩ (fun w h Y => PySem.W.kIn_of Y) ?F (fun K H a ns hl _ hS => ⟨a, ns, rfl, hS, hl, fun _ => rfl⟩)
  case F =>
    intro w mg fa h KX G hmg
    refine' AL.all_mk KX G hmg ?a_Parted ?xl_Parted ?rb_Parted ?eb_Parted ?fb_Parted ?ai_Parted ?ti_Parted ?l_i_Parted ?c_i_Parted ?k_i_Parted ?a_Ringed ?xl_Ringed ?rb_Ringed ?eb_Ringed ?fb_Ringed ?ai_Ringed ?ti_Ringed ?l_i_Ringed ?c_i_Ringed ?k_i_Ringed ?a_BadRow ?xl_BadRow ?rb_BadRow ?eb_BadRow ?fb_BadRow ?ai_BadRow ?ti_BadRow ?l_i_BadRow ?c_i_BadRow ?k_i_BadRow ?a_Hidden ?xl_Hidden ?rb_Hidden ?eb_Hidden ?fb_Hidden ?ai_Hidden ?ti_Hidden ?l_i_Hidden ?c_i_Hidden ?k_i_Hidden ?a_NoSite ?xl_NoSite ?rb_NoSite ?eb_NoSite ?fb_NoSite ?ai_NoSite ?ti_NoSite ?l_i_NoSite ?c_i_NoSite ?k_i_NoSite ?a_Wrong ?xl_Wrong ?rb_Wrong ?eb_Wrong ?fb_Wrong ?ai_Wrong ?ti_Wrong ?l_i_Wrong ?c_i_Wrong ?k_i_Wrong ?a_BadKey ?xl_BadKey ?rb_BadKey ?eb_BadKey ?fb_BadKey ?ai_BadKey ?ti_BadKey ?l_i_BadKey ?c_i_BadKey ?k_i_BadKey ?a_BadReference ?xl_BadReference ?rb_BadReference ?eb_BadReference ?fb_BadReference ?ai_BadReference ?ti_BadReference ?l_i_BadReference ?c_i_BadReference ?k_i_BadReference ?a_BadMade ?xl_BadMade ?rb_BadMade ?eb_BadMade ?fb_BadMade ?ai_BadMade ?ti_BadMade ?l_i_BadMade ?c_i_BadMade ?k_i_BadMade ?a_Unknown ?xl_Unknown ?rb_Unknown ?eb_Unknown ?fb_Unknown ?ai_Unknown ?ti_Unknown ?l_i_Unknown ?c_i_Unknown ?k_i_Unknown ?a_NotFixed ?xl_NotFixed ?rb_NotFixed ?eb_NotFixed ?fb_NotFixed ?ai_NotFixed ?ti_NotFixed ?l_i_NotFixed ?c_i_NotFixed ?k_i_NotFixed ?a_Missing ?xl_Missing ?rb_Missing ?eb_Missing ?fb_Missing ?ai_Missing ?ti_Missing ?l_i_Missing ?c_i_Missing ?k_i_Missing ?a_BadItem ?xl_BadItem ?rb_BadItem ?eb_BadItem ?fb_BadItem ?ai_BadItem ?ti_BadItem ?l_i_BadItem ?c_i_BadItem ?k_i_BadItem ?a_BadShown ?xl_BadShown ?rb_BadShown ?eb_BadShown ?fb_BadShown ?ai_BadShown ?ti_BadShown ?l_i_BadShown ?c_i_BadShown ?k_i_BadShown ?a_BadMark ?xl_BadMark ?rb_BadMark ?eb_BadMark ?fb_BadMark ?ai_BadMark ?ti_BadMark ?l_i_BadMark ?c_i_BadMark ?k_i_BadMark ?a_Loose ?xl_Loose ?rb_Loose ?eb_Loose ?fb_Loose ?ai_Loose ?ti_Loose ?l_i_Loose ?c_i_Loose ?k_i_Loose ?a_NoNumber ?xl_NoNumber ?rb_NoNumber ?eb_NoNumber ?fb_NoNumber ?ai_NoNumber ?ti_NoNumber ?l_i_NoNumber ?c_i_NoNumber ?k_i_NoNumber ?a_Twice ?xl_Twice ?rb_Twice ?eb_Twice ?fb_Twice ?ai_Twice ?ti_Twice ?l_i_Twice ?c_i_Twice ?k_i_Twice ?a_TooMany ?xl_TooMany ?rb_TooMany ?eb_TooMany ?fb_TooMany ?ai_TooMany ?ti_TooMany ?l_i_TooMany ?c_i_TooMany ?k_i_TooMany ?a_Full ?xl_Full ?rb_Full ?eb_Full ?fb_Full ?ai_Full ?ti_Full ?l_i_Full ?c_i_Full ?k_i_Full ?a_NoEntry ?xl_NoEntry ?rb_NoEntry ?eb_NoEntry ?fb_NoEntry ?ai_NoEntry ?ti_NoEntry ?l_i_NoEntry ?c_i_NoEntry ?k_i_NoEntry ?a_NoUse ?xl_NoUse ?rb_NoUse ?eb_NoUse ?fb_NoUse ?ai_NoUse ?ti_NoUse ?l_i_NoUse ?c_i_NoUse ?k_i_NoUse ?a_Unlike ?xl_Unlike ?rb_Unlike ?eb_Unlike ?fb_Unlike ?ai_Unlike ?ti_Unlike ?l_i_Unlike ?c_i_Unlike ?k_i_Unlike ?a_NoMove ?xl_NoMove ?rb_NoMove ?eb_NoMove ?fb_NoMove ?ai_NoMove ?ti_NoMove ?l_i_NoMove ?c_i_NoMove ?k_i_NoMove ?a_Unfit ?xl_Unfit ?rb_Unfit ?eb_Unfit ?fb_Unfit ?ai_Unfit ?ti_Unfit ?l_i_Unfit ?c_i_Unfit ?k_i_Unfit ?a_Nothing ?xl_Nothing ?rb_Nothing ?eb_Nothing ?fb_Nothing ?ai_Nothing ?ti_Nothing ?l_i_Nothing ?c_i_Nothing ?k_i_Nothing ?a_NoText ?xl_NoText ?rb_NoText ?eb_NoText ?fb_NoText ?ai_NoText ?ti_NoText ?l_i_NoText ?c_i_NoText ?k_i_NoText ?a_NoCommand ?xl_NoCommand ?rb_NoCommand ?eb_NoCommand ?fb_NoCommand ?ai_NoCommand ?ti_NoCommand ?l_i_NoCommand ?c_i_NoCommand ?k_i_NoCommand ?a_bag ?l_bag ?c_bag ?k_bag ?a_take ?l_take ?c_take ?k_take ?a_alike ?l_alike ?c_alike ?k_alike ?a_thing ?l_thing ?c_thing ?k_thing ?a_errors ?l_errors ?c_errors ?k_errors ?a_classes ?l_classes ?c_classes ?k_classes ?a_fields ?l_fields ?c_fields ?k_fields ?a_law ?l_law ?c_law ?k_law ?z_len ?z_int ?z_abs ?z_repr ?z_isinstance ?z_bool ?z_str ?z_all ?z_range ?z_enumerate ?z_tuple ?z_list ?z_dict ?z_ValueError ?aP ?qP ?eP ?isa
    (case a_Parted => k_is)
    (case xl_Parted => k_is)
    (case rb_Parted => first | rfl | k_is)
    (case eb_Parted => kernel_rfl)
    (case fb_Parted => kernel_rfl)
    (case ai_Parted => k_is)
    (case ti_Parted => k_is)
    (case l_i_Parted => k_is)
    (case c_i_Parted => k_is)
    (case k_i_Parted => k_is)
    (case a_Ringed => k_is)
    (case xl_Ringed => k_is)
    (case rb_Ringed => first | rfl | k_is)
    (case eb_Ringed => kernel_rfl)
    (case fb_Ringed => kernel_rfl)
    (case ai_Ringed => k_is)
    (case ti_Ringed => k_is)
    (case l_i_Ringed => k_is)
    (case c_i_Ringed => k_is)
    (case k_i_Ringed => k_is)
    (case a_BadRow => k_is)
    (case xl_BadRow => k_is)
    (case rb_BadRow => first | rfl | k_is)
    (case eb_BadRow => kernel_rfl)
    (case fb_BadRow => kernel_rfl)
    (case ai_BadRow => k_is)
    (case ti_BadRow => k_is)
    (case l_i_BadRow => k_is)
    (case c_i_BadRow => k_is)
    (case k_i_BadRow => k_is)
    (case a_Hidden => k_is)
    (case xl_Hidden => k_is)
    (case rb_Hidden => first | rfl | k_is)
    (case eb_Hidden => kernel_rfl)
    (case fb_Hidden => kernel_rfl)
    (case ai_Hidden => k_is)
    (case ti_Hidden => k_is)
    (case l_i_Hidden => k_is)
    (case c_i_Hidden => k_is)
    (case k_i_Hidden => k_is)
    (case a_NoSite => k_is)
    (case xl_NoSite => k_is)
    (case rb_NoSite => first | rfl | k_is)
    (case eb_NoSite => kernel_rfl)
    (case fb_NoSite => kernel_rfl)
    (case ai_NoSite => k_is)
    (case ti_NoSite => k_is)
    (case l_i_NoSite => k_is)
    (case c_i_NoSite => k_is)
    (case k_i_NoSite => k_is)
    (case a_Wrong => k_is)
    (case xl_Wrong => k_is)
    (case rb_Wrong => first | rfl | k_is)
    (case eb_Wrong => kernel_rfl)
    (case fb_Wrong => kernel_rfl)
    (case ai_Wrong => k_is)
    (case ti_Wrong => k_is)
    (case l_i_Wrong => k_is)
    (case c_i_Wrong => k_is)
    (case k_i_Wrong => k_is)
    (case a_BadKey => k_is)
    (case xl_BadKey => k_is)
    (case rb_BadKey => first | rfl | k_is)
    (case eb_BadKey => kernel_rfl)
    (case fb_BadKey => kernel_rfl)
    (case ai_BadKey => k_is)
    (case ti_BadKey => k_is)
    (case l_i_BadKey => k_is)
    (case c_i_BadKey => k_is)
    (case k_i_BadKey => k_is)
    (case a_BadReference => k_is)
    (case xl_BadReference => k_is)
    (case rb_BadReference => first | rfl | k_is)
    (case eb_BadReference => kernel_rfl)
    (case fb_BadReference => kernel_rfl)
    (case ai_BadReference => k_is)
    (case ti_BadReference => k_is)
    (case l_i_BadReference => k_is)
    (case c_i_BadReference => k_is)
    (case k_i_BadReference => k_is)
    (case a_BadMade => k_is)
    (case xl_BadMade => k_is)
    (case rb_BadMade => first | rfl | k_is)
    (case eb_BadMade => kernel_rfl)
    (case fb_BadMade => kernel_rfl)
    (case ai_BadMade => k_is)
    (case ti_BadMade => k_is)
    (case l_i_BadMade => k_is)
    (case c_i_BadMade => k_is)
    (case k_i_BadMade => k_is)
    (case a_Unknown => k_is)
    (case xl_Unknown => k_is)
    (case rb_Unknown => first | rfl | k_is)
    (case eb_Unknown => kernel_rfl)
    (case fb_Unknown => kernel_rfl)
    (case ai_Unknown => k_is)
    (case ti_Unknown => k_is)
    (case l_i_Unknown => k_is)
    (case c_i_Unknown => k_is)
    (case k_i_Unknown => k_is)
    (case a_NotFixed => k_is)
    (case xl_NotFixed => k_is)
    (case rb_NotFixed => first | rfl | k_is)
    (case eb_NotFixed => kernel_rfl)
    (case fb_NotFixed => kernel_rfl)
    (case ai_NotFixed => k_is)
    (case ti_NotFixed => k_is)
    (case l_i_NotFixed => k_is)
    (case c_i_NotFixed => k_is)
    (case k_i_NotFixed => k_is)
    (case a_Missing => k_is)
    (case xl_Missing => k_is)
    (case rb_Missing => first | rfl | k_is)
    (case eb_Missing => kernel_rfl)
    (case fb_Missing => kernel_rfl)
    (case ai_Missing => k_is)
    (case ti_Missing => k_is)
    (case l_i_Missing => k_is)
    (case c_i_Missing => k_is)
    (case k_i_Missing => k_is)
    (case a_BadItem => k_is)
    (case xl_BadItem => k_is)
    (case rb_BadItem => first | rfl | k_is)
    (case eb_BadItem => kernel_rfl)
    (case fb_BadItem => kernel_rfl)
    (case ai_BadItem => k_is)
    (case ti_BadItem => k_is)
    (case l_i_BadItem => k_is)
    (case c_i_BadItem => k_is)
    (case k_i_BadItem => k_is)
    (case a_BadShown => k_is)
    (case xl_BadShown => k_is)
    (case rb_BadShown => first | rfl | k_is)
    (case eb_BadShown => kernel_rfl)
    (case fb_BadShown => kernel_rfl)
    (case ai_BadShown => k_is)
    (case ti_BadShown => k_is)
    (case l_i_BadShown => k_is)
    (case c_i_BadShown => k_is)
    (case k_i_BadShown => k_is)
    (case a_BadMark => k_is)
    (case xl_BadMark => k_is)
    (case rb_BadMark => first | rfl | k_is)
    (case eb_BadMark => kernel_rfl)
    (case fb_BadMark => kernel_rfl)
    (case ai_BadMark => k_is)
    (case ti_BadMark => k_is)
    (case l_i_BadMark => k_is)
    (case c_i_BadMark => k_is)
    (case k_i_BadMark => k_is)
    (case a_Loose => k_is)
    (case xl_Loose => k_is)
    (case rb_Loose => first | rfl | k_is)
    (case eb_Loose => kernel_rfl)
    (case fb_Loose => kernel_rfl)
    (case ai_Loose => k_is)
    (case ti_Loose => k_is)
    (case l_i_Loose => k_is)
    (case c_i_Loose => k_is)
    (case k_i_Loose => k_is)
    (case a_NoNumber => k_is)
    (case xl_NoNumber => k_is)
    (case rb_NoNumber => first | rfl | k_is)
    (case eb_NoNumber => kernel_rfl)
    (case fb_NoNumber => kernel_rfl)
    (case ai_NoNumber => k_is)
    (case ti_NoNumber => k_is)
    (case l_i_NoNumber => k_is)
    (case c_i_NoNumber => k_is)
    (case k_i_NoNumber => k_is)
    (case a_Twice => k_is)
    (case xl_Twice => k_is)
    (case rb_Twice => first | rfl | k_is)
    (case eb_Twice => kernel_rfl)
    (case fb_Twice => kernel_rfl)
    (case ai_Twice => k_is)
    (case ti_Twice => k_is)
    (case l_i_Twice => k_is)
    (case c_i_Twice => k_is)
    (case k_i_Twice => k_is)
    (case a_TooMany => k_is)
    (case xl_TooMany => k_is)
    (case rb_TooMany => first | rfl | k_is)
    (case eb_TooMany => kernel_rfl)
    (case fb_TooMany => kernel_rfl)
    (case ai_TooMany => k_is)
    (case ti_TooMany => k_is)
    (case l_i_TooMany => k_is)
    (case c_i_TooMany => k_is)
    (case k_i_TooMany => k_is)
    (case a_Full => k_is)
    (case xl_Full => k_is)
    (case rb_Full => first | rfl | k_is)
    (case eb_Full => kernel_rfl)
    (case fb_Full => kernel_rfl)
    (case ai_Full => k_is)
    (case ti_Full => k_is)
    (case l_i_Full => k_is)
    (case c_i_Full => k_is)
    (case k_i_Full => k_is)
    (case a_NoEntry => k_is)
    (case xl_NoEntry => k_is)
    (case rb_NoEntry => first | rfl | k_is)
    (case eb_NoEntry => kernel_rfl)
    (case fb_NoEntry => kernel_rfl)
    (case ai_NoEntry => k_is)
    (case ti_NoEntry => k_is)
    (case l_i_NoEntry => k_is)
    (case c_i_NoEntry => k_is)
    (case k_i_NoEntry => k_is)
    (case a_NoUse => k_is)
    (case xl_NoUse => k_is)
    (case rb_NoUse => first | rfl | k_is)
    (case eb_NoUse => kernel_rfl)
    (case fb_NoUse => kernel_rfl)
    (case ai_NoUse => k_is)
    (case ti_NoUse => k_is)
    (case l_i_NoUse => k_is)
    (case c_i_NoUse => k_is)
    (case k_i_NoUse => k_is)
    (case a_Unlike => k_is)
    (case xl_Unlike => k_is)
    (case rb_Unlike => first | rfl | k_is)
    (case eb_Unlike => kernel_rfl)
    (case fb_Unlike => kernel_rfl)
    (case ai_Unlike => k_is)
    (case ti_Unlike => k_is)
    (case l_i_Unlike => k_is)
    (case c_i_Unlike => k_is)
    (case k_i_Unlike => k_is)
    (case a_NoMove => k_is)
    (case xl_NoMove => k_is)
    (case rb_NoMove => first | rfl | k_is)
    (case eb_NoMove => kernel_rfl)
    (case fb_NoMove => kernel_rfl)
    (case ai_NoMove => k_is)
    (case ti_NoMove => k_is)
    (case l_i_NoMove => k_is)
    (case c_i_NoMove => k_is)
    (case k_i_NoMove => k_is)
    (case a_Unfit => k_is)
    (case xl_Unfit => k_is)
    (case rb_Unfit => first | rfl | k_is)
    (case eb_Unfit => kernel_rfl)
    (case fb_Unfit => kernel_rfl)
    (case ai_Unfit => k_is)
    (case ti_Unfit => k_is)
    (case l_i_Unfit => k_is)
    (case c_i_Unfit => k_is)
    (case k_i_Unfit => k_is)
    (case a_Nothing => k_is)
    (case xl_Nothing => k_is)
    (case rb_Nothing => first | rfl | k_is)
    (case eb_Nothing => kernel_rfl)
    (case fb_Nothing => kernel_rfl)
    (case ai_Nothing => k_is)
    (case ti_Nothing => k_is)
    (case l_i_Nothing => k_is)
    (case c_i_Nothing => k_is)
    (case k_i_Nothing => k_is)
    (case a_NoText => k_is)
    (case xl_NoText => k_is)
    (case rb_NoText => first | rfl | k_is)
    (case eb_NoText => kernel_rfl)
    (case fb_NoText => kernel_rfl)
    (case ai_NoText => k_is)
    (case ti_NoText => k_is)
    (case l_i_NoText => k_is)
    (case c_i_NoText => k_is)
    (case k_i_NoText => k_is)
    (case a_NoCommand => k_is)
    (case xl_NoCommand => k_is)
    (case rb_NoCommand => first | rfl | k_is)
    (case eb_NoCommand => kernel_rfl)
    (case fb_NoCommand => kernel_rfl)
    (case ai_NoCommand => k_is)
    (case ti_NoCommand => k_is)
    (case l_i_NoCommand => k_is)
    (case c_i_NoCommand => k_is)
    (case k_i_NoCommand => k_is)
    (case a_bag => k_is)
    (case l_bag => k_is)
    (case c_bag => k_is)
    (case k_bag => k_is)
    (case a_take => k_is)
    (case l_take => k_is)
    (case c_take => k_is)
    (case k_take => k_is)
    (case a_alike => k_is)
    (case l_alike => k_is)
    (case c_alike => k_is)
    (case k_alike => k_is)
    (case a_thing => k_is)
    (case l_thing => k_is)
    (case c_thing => k_is)
    (case k_thing => k_is)
    (case a_errors => k_is)
    (case l_errors => k_is)
    (case c_errors => k_is)
    (case k_errors => k_is)
    (case a_classes => k_is)
    (case l_classes => k_is)
    (case c_classes => k_is)
    (case k_classes => k_is)
    (case a_fields => k_is)
    (case l_fields => k_is)
    (case c_fields => k_is)
    (case k_fields => k_is)
    (case a_law => k_is)
    (case l_law => k_is)
    (case c_law => k_is)
    (case k_law => k_is)
    (case z_len => k_is)
    (case z_int => k_is)
    (case z_abs => k_is)
    (case z_repr => k_is)
    (case z_isinstance => k_is)
    (case z_bool => k_is)
    (case z_str => k_is)
    (case z_all => k_is)
    (case z_range => k_is)
    (case z_enumerate => k_is)
    (case z_tuple => k_is)
    (case z_list => k_is)
    (case z_dict => k_is)
    (case z_ValueError => k_is)
    (case aP => k_is)
    (case qP => k_exc)
    (case eP => kernel_rfl)
    (case isa => kernel_rfl)
