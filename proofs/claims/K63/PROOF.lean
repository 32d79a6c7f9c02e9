import PyProof.Rows.All
import Wide.All
import OpenK.AllK
import Wide.FinOn
import PyProof.EqAt
import PyProof.EqKinds
import PyProof.TupleCall
import KE.KStateDown
import Lean
import HandS.Base
import HandS.Call
import HandS.List
import HandS.Comp
import HandS.Ends
import HandS.Dict
import HandS.Iter
import HandS.More
import HandS.Words
import HandS.WordsList
import HandS.WordsDict
import HandS.Exc
import HandS.WordsExc
import HandS.Defaults
import HandS.Head0
import HandS.Head1
import HandS.Head2
import HandS.HeadEnd
import HandS.HeadHook1
import HandS.HeadHook2
import HandS.EndBits
import HandS.Wide
import HandS.IsInst
import HandS.Style
import HandS.Flow
import HandS.SortInts
import HandS.ExcIs
import HandS.Conv
import HandS.Text
import HandS.Walk
import HandS.MakeKwOnly
import HandS.Codes
import HandS.Zip0
import HandS.DictComp
import HandS.DictEq
import HandS.NoneIn
import HandS.Small
import KE.KDictPairs
import KE.GoesEnumKw
import KE.KDictCopyH
import HandS.ExcInit
import HandS.ExcField
import HandS.OwnEq
import HandS.TryOnly
import HandS.Deep
import PySem.Challenge.RW_editionrows_k63_whole_tuples_that_show_u
set_option Elab.async false
set_option linter.all false
set_option maxRecDepth 100000
set_option maxHeartbeats 4000000
/-! What every text of ours begins with: a called def in one word, the head's Hook with one more Bool, the end with the script's bits. -/
namespace Evl2
open PySem PySem.Spec PyProof.Rows L2
/-- a def of the text, with its promise, as a caller takes it -/
structure Callee (P : Program) (w : World) (K : PySem.W.Frag) (mg : Str → Option Value) (base : Heap) (CX : CXT) (k : Nat) (x : Str) (ps : List Str) (dvs : List V) (sp : Sp) : Prop where
  ex : ∃ (fd : FuncData) (ds : List Value), FnOk P w K mg base CX k (He.ga K x) fd ps sp ∧ Binds K fd ps ds ∧ Vals dvs ds
  kp : PySem.W.keepIn K (.ref (He.ga K x)) = true
  g : mg x = some (.ref (He.ga K x))
theorem Callee.up {P : Program} {w : World} {K : PySem.W.Frag} {mg : Str → Option Value} {base : Heap} {CX : CXT} {j k : Nat} {x : Str} {ps : List Str} {dvs : List V} {sp : Sp}
    (C : Callee P w K mg base CX j x ps dvs sp) (h : j ≤ k) : Callee P w K mg base CX k x ps dvs sp := by
  obtain ⟨fd, ds, F, b, v⟩ := C.ex
  exact ⟨⟨fd, ds, F.mono h, b, v⟩, C.kp, C.g⟩
/-- f(e, ..) -/
theorem pcall {X : Cx} {k : Nat} {x : Str} {ps : List Str} {dvs : List V} {sp : Sp} {p pos : Pos} {e : Expr} {es : List Expr} {t : TA} (C : Callee X.prog X.w X.K X.mg X.base CX0 k x ps dvs sp) (hr : Room k X.A) (ha : PA X (e :: es) t) (hg : Gl X x := by rfl)
    (hdb : (x == ("__debug__" : Str)) = false := by decide) (he : starEach (e :: es) X.env = (false, eval e X.env) :: starEach es X.env := by rfl) (hpl : (backTo pos (starEach es X.env)).any (·.1) = false := by rfl) :
    PE X (.Call (.Name x p) (e :: es) [] pos) (tCall sp dvs E0 t) := by
  obtain ⟨fd, ds, F, b, v⟩ := C.ex
  exact pe_call F hr hg C.g C.kp b v pass0 ha hdb he hpl
/-- f() -/
theorem pcall0 {X : Cx} {k : Nat} {x : Str} {ps : List Str} {dvs : List V} {sp : Sp} {p pos : Pos} (C : Callee X.prog X.w X.K X.mg X.base CX0 k x ps dvs sp) (hr : Room k X.A) (hg : Gl X x := by rfl)
    (hdb : (x == ("__debug__" : Str)) = false := by decide) : PE X (.Call (.Name x p) [] [] pos) (tCall sp dvs E0 tNil) := by
  obtain ⟨fd, ds, F, b, v⟩ := C.ex
  exact pe_call0 F hr hg C.g C.kp b v pass0 hdb
/-! ### the head's Hook: the library's facts and one more Bool -/
abbrev AlP : Type := He.AlD × Bool
/-- addresses not yet seen, told by the bits of a number -/
def newA : List Addr → Nat → List Addr → (Nat → List Addr → List Addr) → List Addr
  | [], s, acc, k => k s acc
  | a :: r, s, acc, k => HandSHeadRun.frNat a fun a => match Nat.beq (Nat.land (Nat.shiftRight s a) 1) 1 with
    | true => newA r s acc k
    | false => HandSHeadRun.frNat (Nat.lor s (Nat.shiftLeft 1 a)) fun s => newA r s (a :: acc) k
def refsA (g : Addr → Option Obj) : List Addr → List Addr
  | [] => []
  | a :: r => (match g a with
    | some o => He.refsD o
    | none => []) ++ refsA g r
/-- the addresses reached from the globals in so many steps, each object looked at once -/
def levA (g : Addr → Option Obj) : Nat → Nat → List Addr → List Addr
  | 0, _, fr => fr
  | n + 1, s, fr => newA (refsA g fr) s [] fun s fr' => fr ++ levA g n s fr'
def asW (g : Addr → Option Obj) (n : Nat) : List Addr := levA g n (Nat.shiftLeft 1 mainGlobals) [mainGlobals]
def mapV : List He.DefD → List He.FnW
  | [] => []
  | d :: r => d.val :: mapV r
def obsP (n : Nat) (fa : List He.Fa) (fn : List He.DefD) (ex : PySem.W.Frag → Bool) (g : Addr → Option Obj) : AlP := (He.obsD fa fn (He.frG g (asW g n)), ex (He.frG g (asW g n)))
def valP (fn : List He.DefD) : AlP := ((true, mapV fn), true)
theorem mapV_eq : ∀ fn : List He.DefD, mapV fn = fn.map He.DefD.val
  | [] => rfl
  | d :: r => congrArg (d.val :: ·) (mapV_eq r)
theorem valP_eq (fn : List He.DefD) : valP fn = (He.valD fn, true) := by
  unfold valP He.valD
  rw [mapV_eq]
def hookP (n : Nat) (fa : List He.Fa) (fn : List He.DefD) (ex : PySem.W.Frag → Bool) : PySem.W.Hook where
  α := AlP
  obs := fun s => obsP n fa fn ex s.heap.get?
  val := fun _ => valP fn
  says := fun _ h => ∃ K : PySem.W.Frag, K.In h ∧ (He.SaysD fa fn K ∧ ex K = true)
  of := fun _ _ e => ⟨_, He.frG_in, (congrArg (fun z : AlP => z.1) e).trans (congrArg (fun z : AlP => z.1) (valP_eq fn)), congrArg (fun z : AlP => z.2) e⟩
  keeps := fun _ _ _ ⟨K, hK, c⟩ k => ⟨K, PySem.W.Frag.In.keeps hK k, c⟩
theorem obsP_eq {n : Nat} {fa : List He.Fa} {fn : List He.DefD} {ex : PySem.W.Frag → Bool} {g : Addr → Option Obj} {s : Shared} (h : ∀ a, g a = s.heap.get? a) : obsP n fa fn ex g = (hookP n fa fn ex).obs s := by
  have e : g = s.heap.get? := funext h
  rw [e] <;> rfl
/-- what a law's end wants of its promise at a written part K -/
def LawOk (l : PySem.W.OpenLaw) (w : World) (mg : Str → Option Value) (CX : CXT) (k n : Nat) (x : Str) (fa : Addr) (K : PySem.W.Frag) : Prop :=
  ∃ (fd : FuncData) (sp : Sp), (∀ (s : Shared) (u : Value), BindsTo s fd ⟨[u], []⟩ [(x, u)]) ∧
    (∀ (H : Hp) (a : Addr) (ns : List Int), ns.length ≤ n → (∀ z ∈ ns, Builtin.Int.intBits z ≤ 1048576) → Only H → SqL K H a (ns.map V.int) → sp [.ref a] H (fun v _ => v = .bl true) fun _ _ _ => False) ∧
    ∀ base : Heap, K.In base → base.Ns mainGlobals mg → FnOk l.prog w K mg base CX k fa fd [x] sp
theorem walk_bits {l : PySem.W.OpenLaw} {n k : Nat} {q : Program} {loose : List Str} {XP : (Str → Option Value) → Heap → Prop} {YP : World → Heap → Prop} {d : DefRec} {CX : CXT} {x : Str} (hn : l.most = some n) (hn2 : n ≤ sizeLine) (hdf : d.params.defaults = []) (hr : Room k callerA)
    (F : ∀ (w : World) (mg : Str → Option Value) (fa : Addr) (h : Heap), YP w h → h.Ns mainGlobals mg → mg d.name = some (.ref fa) → ∃ K : PySem.W.Frag, K.In h ∧ LawOk l w mg CX k n x fa K)
    (hCX : ∀ (H : Hp) (s : Shared) (e : Value) (s' : Shared), CX [] H s (fun _ _ _ => False) e s' → False) : PySem.W.WalkO q loose XP YP l.row.toRowW d [] (fun f vs => PySem.call f vs) := by
  refine Att.attach_callB hn hdf fun w s₀ s₁ mg mb fa o pm cd doc a vs ns G Y ho hd hcd hmg hobj hints hlen hbits hg => ?_
  obtain ⟨K, KX, fd, sp, hb, hsp, hF⟩ := F w mg fa _ Y G.T.g hmg
  exact law_call KX G.T.g G.T.b G.T.builtins G.T.nolimit hg hobj hints (Nat.le_trans hlen hn2) hr hF hb (fun H hO hS => hsp H a ns hlen hbits hO hS) fun H e s' => hCX H s₁ e s'
end Evl2
/-! ### more words of ours -/
namespace Evl2
open PySem PySem.Spec PyProof.Rows L2
section
variable {P : Program} {w : World} {K : PySem.W.Frag} {mg : Str → Option Value} {base : Heap}
/-- a method without defaults -/
theorem mkMeth {m q : Str} {params : Arguments} {body : List Stmt} {scope : Scope} {N ps : List Str} {k : Nat} {sp : Sp} {f : Addr} (hF : ∃ fd, FunD K m q params body scope [] [] f fd) (S : FnScope N ps scope)
    (hb : ∀ (kV doc pm : Value) (an : Option Addr) (cdv ct : Value) (us : List Value), us.length = ps.length → bindArgs (PySem.W.fnOf m q params body scope .none kV doc pm an cdv ct) ⟨us, []⟩ = pure (ps.zip us))
    (len : ∀ vs H Q E, sp vs H Q E → vs.length = ps.length)
    (hbody : ∀ (cdv : Value) (A : Around) (outer : List Env) (s : Shared) (H : Hp) (vs : List V) (Q : VK) (E : XK), Room k (A.deeper (envOfC q scope s.heap.objs.size f cdv)) → sp vs H Q E →
      ∃ t, PSs (cxOf CX0 P w K mg base N q scope f cdv A outer s H E).nox body t ∧ t { nx := fun _ H' => Q .non H', rt := Q } (start N vs) H) : ∃ fd, FnOk P w K mg base CX0 (k + 1) f fd ps sp ∧ Binds K fd ps [] := by
  obtain ⟨fd, F⟩ := hF
  refine ⟨fd, F.ok S len fun cdv A outer s H vs Q E hr h => ?_, F.bindsN hb⟩
  obtain ⟨t, h1, h2⟩ := hbody cdv A outer s H vs Q E hr h
  exact ⟨t, h1.nox, h2⟩
/-- a def without defaults, as a callee -/
theorem mkCallee {x y : Str} {params : Arguments} {body : List Stmt} {scope : Scope} {N ps : List Str} {k : Nat} {sp : Sp} (hF : ∃ fd, FunD K y y params body scope [] [] (He.ga K x) fd) (hg : mg x = some (.ref (He.ga K x))) (S : FnScope N ps scope)
    (hb : ∀ (kV doc pm : Value) (an : Option Addr) (cdv ct : Value) (us : List Value), us.length = ps.length → bindArgs (PySem.W.fnOf y y params body scope .none kV doc pm an cdv ct) ⟨us, []⟩ = pure (ps.zip us))
    (len : ∀ vs H Q E, sp vs H Q E → vs.length = ps.length)
    (hbody : ∀ (cdv : Value) (A : Around) (outer : List Env) (s : Shared) (H : Hp) (vs : List V) (Q : VK) (E : XK), Room k (A.deeper (envOfC y scope s.heap.objs.size (He.ga K x) cdv)) → sp vs H Q E →
      ∃ t, PSs (cxOf CX0 P w K mg base N y scope (He.ga K x) cdv A outer s H E).nox body t ∧ t { nx := fun _ H' => Q .non H', rt := Q } (start N vs) H) : Callee P w K mg base CX0 (k + 1) x ps [] sp := by
  obtain ⟨fd, F⟩ := hF
  refine ⟨⟨fd, [], F.ok S len fun cdv A outer s H vs Q E hr h => ?_, F.bindsN hb, .nil⟩, F.kp, hg⟩
  obtain ⟨t, h1, h2⟩ := hbody cdv A outer s H vs Q E hr h
  exact ⟨t, h1.nox, h2⟩
end
theorem s_whenX {t : TT} {tu : TS} {D : Ends} {σ : L2.St} {H : Hp} (P : Hp → Prop) (test : ∀ R : Bool → Hp → Prop, (∀ b H1, P H1 → R b H1) → t σ H R) (body : ∀ H1, P H1 → tu D σ H1) (skip : ∀ H1, P H1 → D.nx σ H1) : tIfS t tu tNext D σ H :=
  test _ fun b H1 p => by
    cases b
    · exact iteF (skip H1 p)
    · exact iteT (body H1 p)
theorem nxt {D : Ends} {σ : L2.St} {H : Hp} (h : D.nx σ H) : tNext D σ H := h
theorem iteD {c A B : Prop} [Decidable c] (hc : ¬ c) (h : B) : if decide c = true then A else B := by
  rw [decide_eq_false hc]
  exact iteF h
theorem iteDT {c A B : Prop} [Decidable c] (hc : c) (h : A) : if decide c = true then A else B := by
  rw [decide_eq_true hc]
  exact iteT h
theorem iteNF {c A B : Prop} [Decidable c] (hc : ¬ c) (h : A) : if (!decide c) = true then A else B := by
  rw [decide_eq_false hc]
  exact iteT h
theorem nes {a b : Str} (h : a ≠ b) : ¬ V.str a = V.str b := fun z => h (V.str.inj z)
theorem nei {a b : Int} (h : a ≠ b) : ¬ V.int a = V.int b := fun z => h (V.int.inj z)
/-- an own error class that is kept -/
def excB (K : PySem.W.Frag) (x : Str) : Bool := PySem.W.keepIn K (.ref (He.ga K x))
/-- what isinstance asks of an own class -/
def insB (K : PySem.W.Frag) (x : Str) : Bool := decide (PySem.W.findIn K (.ref (He.ga K x)) "__class__" = some (some (.builtin "object.__class__"))) && (decide (PySem.W.specialIn K (.builtin "object.__class__") "__get__" = some (some (.builtin "getset_descriptor.__get__"))) &&
  (decide (PySem.W.takesIn K (.builtin "object.__class__") = some true) && decide (PySem.W.mroIn K (He.ga K x) (.type "object") = some true)))
theorem insC_of {K : PySem.W.Frag} {x : Str} (h : insB K x = true) (c : Cls K (He.ga K x)) : C8.InsC K (He.ga K x) := by
  unfold insB at h
  rw [Bool.and_eq_true, Bool.and_eq_true, Bool.and_eq_true] at h
  exact ⟨c, of_decide_eq_true h.1, of_decide_eq_true h.2.1, of_decide_eq_true h.2.2.1, of_decide_eq_true h.2.2.2, if_pos (beq_self_eq_true _)⟩
/-- the own class x is none of the builtin ones -/
def noTs : List String := ["NoneType", "bool", "int", "str", "list", "tuple", "dict"]
def ninB (K : PySem.W.Frag) (x : Str) : Bool := noTs.all fun t => decide (PySem.W.kitOne K (.type t) (.ref (He.ga K x)) = some false) && PySem.W.notFirst K (He.ga K x) (.type t)
theorem ninB_kit {K : PySem.W.Frag} {x : Str} (h : ninB K x = true) {t : String} (ht : t ∈ noTs) : PySem.W.kitOne K (.type t) (.ref (He.ga K x)) = some false := of_decide_eq_true (Bool.and_eq_true_iff.mp (List.all_eq_true.mp h t ht)).1
theorem ninB_first {K : PySem.W.Frag} {x : Str} (h : ninB K x = true) {t : String} (ht : t ∈ noTs) : PySem.W.notFirst K (He.ga K x) (.type t) = true := (Bool.and_eq_true_iff.mp (List.all_eq_true.mp h t ht)).2
/-- what != of an own class asks -/
def neB (K : PySem.W.Frag) (x : Str) : Bool := decide (PySem.W.findIn K (.ref (He.ga K x)) "__ne__" = some (some (.builtin "object.__ne__"))) && decide (PySem.W.mroIn K (He.ga K x) (.type "object") = some true)
structure NeC (K : PySem.W.Frag) (C : Addr) : Prop where
  at_ : PySem.W.findIn K (.ref C) "__ne__" = some (some (.builtin "object.__ne__"))
  ob : PySem.W.mroIn K C (.type "object") = some true
theorem neC_of {K : PySem.W.Frag} {x : Str} (h : neB K x = true) : NeC K (He.ga K x) := by
  unfold neB at h
  rw [Bool.and_eq_true] at h
  exact ⟨of_decide_eq_true h.1, of_decide_eq_true h.2⟩
/-- an own error class over ValueError with an own __init__ that keeps its argument under f -/
def oexB (K : PySem.W.Frag) (x f : Str) : Bool := (match K.lookup (He.ga K x) with
  | some ⟨.type "type", _, .cls cd, sl⟩ => (match cd.mro, sl.toList with
    | .ref C' :: bm, [_, _, _, _, some (.builtin n), _] => C' == He.ga K x && (n == "ValueError.__new__" && (!cd.hasDel && (PySem.HandSPX.refsVE bm && cd.hasDict)))
    | _, _ => false)
  | _ => false) && (decide (PySem.W.findIn K (.ref (He.ga K x)) "__setattr__" = some (some (.builtin "object.__setattr__"))) && (decide (PySem.W.subIn K (.ref (He.ga K x)) (.type "BaseException") = some true) && (decide (PySem.W.typeIn K (.ref (He.ga K x)) = some (.type "type")) &&
    (PySem.W.keepIn K (.ref (He.ga K x)) && (xfB K (He.ga K x) && (decide (PySem.W.findIn K (.ref (He.ga K x)) "__init__" = some (some (.ref (He.ma K (He.ga K x) "__init__")))) && (decide (PySem.W.typeIn K (.ref (He.ma K (He.ga K x) "__init__")) = some (.type "function")) &&
    (decide (PySem.W.findIn K (.ref (He.ga K x)) f = some none) && decide (PySem.W.exmOne K (.ref (He.ga K x)) (.ref (He.ga K x)) = some true)))))))))
structure OexF (K : PySem.W.Frag) (x f : Str) : Prop where
  o : OexC K (He.ga K x)
  xf : XfC K (He.ga K x)
  i : PySem.W.findIn K (.ref (He.ga K x)) "__init__" = some (some (.ref (He.ma K (He.ga K x) "__init__")))
  ti : PySem.W.typeIn K (.ref (He.ma K (He.ga K x) "__init__")) = some (.type "function")
  no : PySem.W.findIn K (.ref (He.ga K x)) f = some none
  me : PySem.W.exmOne K (.ref (He.ga K x)) (.ref (He.ga K x)) = some true
theorem oexB_ok {K : PySem.W.Frag} {x f : Str} (h : oexB K x f = true) : OexF K x f := by
  unfold oexB at h
  simp only [Bool.and_eq_true, decide_eq_true_eq] at h
  obtain ⟨h0, h1, h2, h3, h4, h5, h6, h7, h8, h9⟩ := h
  refine ⟨⟨?_, h1, h2, h3, h4⟩, xfB_ok h5, h6, h7, h8, h9⟩
  split at h0
  · rename_i dd cd sl ho
    split at h0
    · rename_i C' bm k0 k1 k2 k3 n k5 hm hs
      simp only [Bool.and_eq_true, beq_iff_eq, Bool.not_eq_true'] at h0
      obtain ⟨hc, hn, hdel, hve, hd⟩ := h0
      obtain ⟨nm, bs, mro, ns, qn, hd', sn, sub, ab, col, del⟩ := cd
      dsimp only at hm hdel hd
      subst hm hdel hd hc hn
      have hsl : sl = #[k0, k1, k2, k3, some (.builtin "ValueError.__new__"), k5] := by
        obtain ⟨l⟩ := sl
        simp only at hs
        rw [hs]
      subst hsl
      exact ⟨_, _, _, _, _, _, _, _, _, _, _, _, _, _, _, ho, hve⟩
    · cases h0
  · cases h0
/-- the empty tuple of the written part -/
def emptyTupB (K : PySem.W.Frag) (a : Addr) : Bool := match K.lookup a with
  | some ⟨.type c, _, .seq its _, _⟩ => decide (c = "tuple") && decide (its.size = 0)
  | _ => false
/-- a pool of draws: a list of two ints -/
def Pl (H : Hp) (a : Addr) : Prop := ∃ z0 z1 : Int, H a = some (.lst [.int z0, .int z1])
/-- all but what stands at a is as it was, at a stands a pool -/
def PlEx (a : Addr) (H H' : Hp) : Prop := (∀ b o, b ≠ a → H b = some o → H' b = some o) ∧ Pl H' a
theorem mod_lo {i j : Int} (h : 0 < j) : 0 ≤ i.fmod j := Int.fmod_nonneg_of_pos i h
theorem mod_hi {i j : Int} (h : 0 < j) : i.fmod j < j := Int.fmod_lt_of_pos i h
/-- values of built-in types: is it an int (no bool)? -/
def isI : V → Bool
  | .int _ => true
  | _ => false
theorem kit_whole {K : PySem.W.Frag} {H : Hp} {x : V} {t : String} (ty : TyX K H x (.type t)) : ∃ a b : Bool, kitB t "int" = some a ∧ kitB t "bool" = some b ∧ (a && !b) = isI x := by
  cases ty with
  | base h => cases h <;> first | exact ⟨true, false, by decide +kernel, by decide +kernel, rfl⟩ | exact ⟨true, true, by decide +kernel, by decide +kernel, rfl⟩ | exact ⟨false, false, by decide +kernel, by decide +kernel, rfl⟩
  | _ => exact ⟨false, false, by decide +kernel, by decide +kernel, rfl⟩
/-! ### heaps -/
theorem same_new {H : Hp} {p : Addr} {o : HO} (h : H p = none) : Same H (upd H p o) := fun a u e => by
  rw [upd_ne (ne_of_none e h)]
  exact e
theorem same_mut {H H' : Hp} {p : Addr} {o : HO} (e : Same H H') (h : H p = none) : Same H (upd H' p o) := fun a u ha => by
  rw [upd_ne (ne_of_none ha h)]
  exact e a u ha
theorem same_tup {K : PySem.W.Frag} {H H' : Hp} {a : Addr} {xs : List V} (e : Same H H') (h : SqT K H a xs) : SqT K H' a xs := by
  rcases h with (h | ⟨o, h⟩) | h
  · exact .inl (.inl (e _ _ h))
  · exact .inl (.inr ⟨o, e _ _ h⟩)
  · exact .inr h
theorem sqL_of {K : PySem.W.Frag} {H : Hp} {a : Addr} {xs : List V} (h : H a = some (.lst xs)) : SqL K H a xs := .inl (.inl h)
theorem sqT_of {K : PySem.W.Frag} {H : Hp} {a : Addr} {xs : List V} (h : H a = some (.tup xs)) : SqT K H a xs := .inl (.inl h)
/-! ### comprehensions that change nothing -/
section
variable {K : PySem.W.Frag} {σ : L2.St} {H : Hp} {tl te : TE} {ta : TA} {tt : TT} {j : Nat} {vs : List Nat} {Q : VK} {xs : List V}
theorem lc_one {f : V → Bool} {v : V → V} {H' : Hp} {D : Addr} {zs : List V} {x : V} (hD : H D = none) (hz : zs.length ≤ 100000) {σ2 : L2.St} (p : Same H H' ∧ H' D = some (.lst zs))
    (ht : ∀ R : Bool → Hp → Prop, (∀ H2, Same H' H2 → R (f x) H2) → tt σ2 H' R) (he : f x = true → ∀ H', Same H H' → ∀ R : VK, (∀ H2, Same H' H2 → R (v x) H2) → te σ2 H' R) {N : Hp → Prop}
    (hN : ∀ H', Same H H' → H' D = some (.lst (zs ++ ([x].filter f).map v)) → N H') :
    tt σ2 H' fun b H3 => if b = true then te σ2 H3 fun y H4 => ∃ acc, H4 D = some (.lst acc) ∧ acc.length < sizeLine ∧ N (upd H4 D (.lst (acc ++ [y]))) else N H3 := by
  refine ht _ fun H3 e3 => ?_
  cases hf : f x with
  | true =>
    refine iteT (he hf H3 (p.1.trans e3) _ fun H4 e4 => ⟨zs, e4 D _ (e3 D _ p.2), Nat.lt_of_le_of_lt hz (by decide), hN _ (same_mut ((p.1.trans e3).trans e4) hD) ?_⟩)
    rw [upd_same, List.filter_cons, if_pos hf]
    rfl
  | false =>
    refine iteF (hN _ (p.1.trans e3) ?_)
    rw [List.filter_cons, if_neg (by rw [hf]; decide)]
    show H3 D = some (.lst (zs ++ []))
    rw [List.append_nil]
    exact e3 D _ p.2
theorem take_one (f : V → Bool) (v : V → V) {i : Nat} {x : V} (h : xs[i]? = some x) : ((xs.take i).filter f).map v ++ ([x].filter f).map v = ((xs.take (i + 1)).filter f).map v := by
  rw [List.take_add_one, h, List.filter_append, List.map_append]
  rfl
theorem take_len (f : V → Bool) (v : V → V) (i : Nat) : (((xs.take i).filter f).map v).length ≤ xs.length := by
  rw [List.length_map]
  refine Nat.le_trans (List.length_filter_le _ _) ?_
  rw [List.length_take]
  exact Nat.min_le_right _ _
theorem tlc_L (f : V → Bool) (v : V → V) (htl : ∀ R : VK, (∀ a H1, Same H H1 → SqL K H1 a xs → R (.ref a) H1) → tl σ H R) (hz : xs.length ≤ 100000) (hw : ∀ x, wipe ((wipe σ vs).set j (some x)) vs = wipe σ vs)
    (ht : ∀ x ∈ xs, ∀ H', Same H H' → ∀ R : Bool → Hp → Prop, (∀ H2, Same H' H2 → R (f x) H2) → tt ((wipe σ vs).set j (some x)) H' R)
    (he : ∀ x ∈ xs, f x = true → ∀ H', Same H H' → ∀ R : VK, (∀ H2, Same H' H2 → R (v x) H2) → te ((wipe σ vs).set j (some x)) H' R)
    (k : ∀ D H', H D = none → Same H H' → H' D = some (.lst ((xs.filter f).map v)) → Q (.ref D) H') : tLc (iList K tl) (gName j) tt te vs σ H Q := by
  refine htl _ fun a H1 e1 hs => ⟨a, rfl, ⟨xs, hs⟩, fun D hD => ?_⟩
  have key : ∀ i x H', xs[i]? = some x → (Same H1 H' ∧ H' D = some (.lst (((xs.take i).filter f).map v))) → gName j x (wipe σ vs) H' fun σ2 H2 => wipe σ2 vs = wipe σ vs ∧ tt σ2 H2 fun b H3 =>
      if b = true then te σ2 H3 fun y H4 => ∃ acc, H4 D = some (.lst acc) ∧ acc.length < sizeLine ∧ (Same H1 (upd H4 D (.lst (acc ++ [y]))) ∧ (upd H4 D (.lst (acc ++ [y]))) D = some (.lst (((xs.take (i + 1)).filter f).map v)))
      else (Same H1 H3 ∧ H3 D = some (.lst (((xs.take (i + 1)).filter f).map v))) := fun i x H' hi p =>
    ⟨hw x, lc_one (N := fun H' => Same H1 H' ∧ H' D = some (.lst (((xs.take (i + 1)).filter f).map v))) (f := f) (v := v) (x := x) hD (Nat.le_trans (take_len f v i) hz) p (ht x (List.mem_of_getElem? hi) H' (e1.trans p.1))
      (fun hf H2 e2 => he x (List.mem_of_getElem? hi) hf H2 (e1.trans e2)) fun H2 s2 d2 => ⟨s2, by rw [d2, take_one f v hi]⟩⟩
  refine lc_list (xs := xs) (fun i H' => Same H1 H' ∧ H' D = some (.lst (((xs.take i).filter f).map v))) ⟨same_new hD, ?_⟩ (fun i H' _ p => p.1.seq hs) key fun H' p => k D H' (e1.free hD) (e1.trans p.1) ?_
  · exact upd_same
  · have q := p.2
    rw [List.take_length] at q
    exact q
theorem tlc_T (f : V → Bool) (v : V → V) (htl : ∀ R : VK, (∀ a H1, Same H H1 → SqT K H1 a xs → R (.ref a) H1) → tl σ H R) (hz : xs.length ≤ 100000) (hw : ∀ x, wipe ((wipe σ vs).set j (some x)) vs = wipe σ vs)
    (ht : ∀ x ∈ xs, ∀ H', Same H H' → ∀ R : Bool → Hp → Prop, (∀ H2, Same H' H2 → R (f x) H2) → tt ((wipe σ vs).set j (some x)) H' R)
    (he : ∀ x ∈ xs, f x = true → ∀ H', Same H H' → ∀ R : VK, (∀ H2, Same H' H2 → R (v x) H2) → te ((wipe σ vs).set j (some x)) H' R)
    (k : ∀ D H', H D = none → Same H H' → H' D = some (.lst ((xs.filter f).map v)) → Q (.ref D) H') : tLc (iTup K tl) (gName j) tt te vs σ H Q := by
  refine htl _ fun a H1 e1 hs => ⟨a, rfl, ⟨xs, hs⟩, fun D hD => ?_⟩
  have key : ∀ i x H', xs[i]? = some x → (Same H1 H' ∧ H' D = some (.lst (((xs.take i).filter f).map v))) → gName j x (wipe σ vs) H' fun σ2 H2 => wipe σ2 vs = wipe σ vs ∧ tt σ2 H2 fun b H3 =>
      if b = true then te σ2 H3 fun y H4 => ∃ acc, H4 D = some (.lst acc) ∧ acc.length < sizeLine ∧ (Same H1 (upd H4 D (.lst (acc ++ [y]))) ∧ (upd H4 D (.lst (acc ++ [y]))) D = some (.lst (((xs.take (i + 1)).filter f).map v)))
      else (Same H1 H3 ∧ H3 D = some (.lst (((xs.take (i + 1)).filter f).map v))) := fun i x H' hi p =>
    ⟨hw x, lc_one (N := fun H' => Same H1 H' ∧ H' D = some (.lst (((xs.take (i + 1)).filter f).map v))) (f := f) (v := v) (x := x) hD (Nat.le_trans (take_len f v i) hz) p (ht x (List.mem_of_getElem? hi) H' (e1.trans p.1))
      (fun hf H2 e2 => he x (List.mem_of_getElem? hi) hf H2 (e1.trans e2)) fun H2 s2 d2 => ⟨s2, by rw [d2, take_one f v hi]⟩⟩
  refine lc_tup (xs := xs) (fun i H' => Same H1 H' ∧ H' D = some (.lst (((xs.take i).filter f).map v))) ⟨same_new hD, ?_⟩ (fun i H' _ p => same_tup p.1 hs) key fun H' p => k D H' (e1.free hD) (e1.trans p.1) ?_
  · exact upd_same
  · have q := p.2
    rw [List.take_length] at q
    exact q
theorem rg_at {n i : Nat} (h : i < n) : ((List.range n).map fun m : Nat => V.int (m : Int))[i]? = some (V.int (i : Int)) := by
  rw [List.getElem?_map, List.getElem?_range h]
  rfl
theorem tlc_R (f : V → Bool) (v : V → V) (n : Int) (hta : ∀ R : List V → Hp → Prop, (∀ H1, Same H H1 → R [.int n] H1) → ta σ H R) (hz : n ≤ 100000) (hw : ∀ x, wipe ((wipe σ vs).set j (some x)) vs = wipe σ vs)
    (ht : ∀ m : Nat, (m : Int) < n → ∀ H', Same H H' → ∀ R : Bool → Hp → Prop, (∀ H2, Same H' H2 → R (f (.int m)) H2) → tt ((wipe σ vs).set j (some (.int m))) H' R)
    (he : ∀ m : Nat, (m : Int) < n → f (.int m) = true → ∀ H', Same H H' → ∀ R : VK, (∀ H2, Same H' H2 → R (v (.int m)) H2) → te ((wipe σ vs).set j (some (.int m))) H' R) (hlo : -100000 ≤ n)
    (k : ∀ D H', H D = none → Same H H' → H' D = some (.lst ((((List.range n.toNat).map fun m : Nat => V.int (m : Int)).filter f).map v)) → Q (.ref D) H') : tLc (iRng1 ta) (gName j) tt te vs σ H Q := by
  refine hta _ fun H1 e1 => ⟨n, rfl, by omega, by omega, fun D hD => ?_⟩
  have key : ∀ i H', i < n.toNat → (Same H1 H' ∧ H' D = some (.lst (((((List.range n.toNat).map fun m : Nat => V.int (m : Int)).take i).filter f).map v))) → gName j (.int ((0 : Int) + (i : Int))) (wipe σ vs) H' fun σ2 H2 => wipe σ2 vs = wipe σ vs ∧ tt σ2 H2 fun b H3 =>
      if b = true then te σ2 H3 fun y H4 => ∃ acc, H4 D = some (.lst acc) ∧ acc.length < sizeLine ∧ (Same H1 (upd H4 D (.lst (acc ++ [y]))) ∧ (upd H4 D (.lst (acc ++ [y]))) D = some (.lst (((((List.range n.toNat).map fun m : Nat => V.int (m : Int)).take (i + 1)).filter f).map v)))
      else (Same H1 H3 ∧ H3 D = some (.lst (((((List.range n.toNat).map fun m : Nat => V.int (m : Int)).take (i + 1)).filter f).map v))) := fun i H' hi p => by
    have e0 : (0 : Int) + (i : Int) = (i : Int) := Int.zero_add _
    rw [e0]
    have hin : (i : Int) < n := by omega
    have hl := take_len (xs := (List.range n.toNat).map fun m : Nat => V.int (m : Int)) f v i
    have hl2 : ((List.range n.toNat).map fun m : Nat => V.int (m : Int)).length = n.toNat := by simp
    exact ⟨hw _, lc_one (N := fun H' => Same H1 H' ∧ H' D = some (.lst (((((List.range n.toNat).map fun m : Nat => V.int (m : Int)).take (i + 1)).filter f).map v))) (f := f) (v := v) (x := .int i) hD (by omega) p (ht i hin H' (e1.trans p.1))
      (fun hf H2 e2 => he i hin hf H2 (e1.trans e2)) fun H2 s2 d2 => ⟨s2, by rw [d2, take_one f v (rg_at hi)]⟩⟩
  refine lc_range (lo := 0) (n := n.toNat) (fun i H' => Same H1 H' ∧ H' D = some (.lst (((((List.range n.toNat).map fun m : Nat => V.int (m : Int)).take i).filter f).map v))) ⟨same_new hD, ?_⟩ key fun H' p => k D H' (e1.free hD) (e1.trans p.1) ?_
  · exact upd_same
  · have q := p.2
    rw [List.take_of_length_le (by simp)] at q
    exact q
end
section
variable {K : PySem.W.Frag} {σ : L2.St} {H : Hp} {te ta : TE} {tt : TT} {U : TS} {D : Ends}
/-- if t: l.append(e), told by the truth of t -/
theorem q_ifapp {l : Addr} {zs : List V} {v : V} (b : Bool) (ht : ∀ R : Bool → Hp → Prop, (∀ H2, Same H H2 → R b H2) → tt σ H R) (hl : H l = some (.lst zs)) (hz : zs.length ≤ 100000) (ha : ∀ (H : Hp) (R : VK), R (.ref l) H → ta σ H R) (he : ∀ (H : Hp) (R : VK), R v H → te σ H R)
    (k : ∀ H', (∀ c o, c ≠ l → H c = some o → H' c = some o) → H' l = some (.lst (zs ++ if b = true then [v] else [])) → U D σ H') : tSeq (tIfS tt (tDrop (tBM K "list" rAppend ta (tCons te tNil))) tNext) U D σ H := by
  refine ht _ fun H2 s2 => ?_
  cases b with
  | true =>
    refine iteT (ha H2 _ ⟨.inl ⟨rfl, _, sqL_of (s2 _ _ hl)⟩, he _ _ ⟨l, _, _, rfl, rfl, s2 _ _ hl, Nat.lt_of_le_of_lt hz (by decide), k _ (fun c o hc e => ?_) upd_same⟩⟩)
    rw [upd_ne hc]
    exact s2 _ _ e
  | false =>
    refine iteF (k H2 (fun c o _ e => s2 _ _ e) ?_)
    show H2 l = some (.lst (zs ++ []))
    rw [List.append_nil]
    exact s2 _ _ hl
end
section
variable {σ : L2.St} {H : Hp} {te : TE} {U : TS} {D : Ends}
/-- x = e, then the rest -/
theorem q_asgX {i : Nat} (h : te σ H fun x H1 => U D (σ.set i (some x)) H1) : tSeq (tAsg te (gName i)) U D σ H := h
/-- x = e, e some int -/
theorem q_asgI {i : Nat} (h : ∀ R : VK, (∀ z : Int, R (.int z) H) → te σ H R) (k : ∀ z : Int, U D (σ.set i (some (.int z))) H) : tSeq (tAsg te (gName i)) U D σ H := h _ k
end
section
variable {K : PySem.W.Frag} {σ : L2.St} {H : Hp} {X : TE} {r : List V → Hp → VK → Prop} {g : TG} {tb U : TS} {D : Ends}
/-- a test by a call of one argument, a for over such a call: the argument first -/
theorem pl_b1 {R : Bool → Hp → Prop} (h : X σ H fun v H1 => r [v] H1 fun x H2 => ∃ c, x = .bl c ∧ R c H2) : tB (tCB r (tCons X tNil)) σ H R := h
theorem pl_r1 {r : List V → Hp → VK → Prop} (h : X σ H fun v H1 => r [v] H1 D.rt) : tRet (tCB r (tCons X tNil)) D σ H := h
theorem pl_forL1 (h : X σ H fun v H1 => r [v] H1 fun x H2 => ∃ a, x = .ref a ∧ (∃ xs, SqL K H2 a xs) ∧ tFor (fun _ H R => R (Itl K a) H) g tb { D with nx := U D } σ H2) : tSeq (tFor (iList K (tCB r (tCons X tNil))) g tb) U D σ H := h
end
/-! ### == of lists of flat values -/
def okV : V → Bool
  | .non => true
  | .bl _ => true
  | .int _ => true
  | .str x => PyData.canLay0 (.str x)
  | _ => false
def dtV : V → PyData
  | .bl b => .bool b
  | .int i => .int i
  | .str x => .str x
  | _ => .none
theorem dp_ok {K : PySem.W.Frag} {H : Hp} : ∀ {x : V}, okV x = true → Dp K H x (dtV x)
  | .non, _ => .non
  | .bl b, _ => .bl b
  | .int i, _ => .int i
  | .str x, _ => .str x
  | .byt _, h => by cases h
  | .flt _, h => by cases h
  | .ref _, h => by cases h
  | .ty _, h => by cases h
theorem dps_ok {K : PySem.W.Frag} {H : Hp} : ∀ {xs : List V}, xs.all okV = true → DpAll K H xs (xs.map dtV)
  | [], _ => .nil
  | x :: r, h => by
    rw [List.all_cons, Bool.and_eq_true] at h
    exact .cons (dp_ok h.1) (dps_ok h.2)
theorem lay_ok : ∀ {x : V}, okV x = true → PyData.canLay0 (dtV x) = true ∧ PyData.depth (dtV x) = 0
  | .non, _ => ⟨rfl, rfl⟩
  | .bl b, _ => ⟨rfl, rfl⟩
  | .int i, _ => ⟨rfl, rfl⟩
  | .str x, h => ⟨h, rfl⟩
  | .byt _, h => by cases h
  | .flt _, h => by cases h
  | .ref _, h => by cases h
  | .ty _, h => by cases h
theorem lays_ok : ∀ {xs : List V}, xs.all okV = true → PyData.canLayAll0 (xs.map dtV) = true ∧ PyData.depthAll (xs.map dtV) = 0
  | [], _ => ⟨rfl, rfl⟩
  | x :: r, h => by
    rw [List.all_cons, Bool.and_eq_true] at h
    obtain ⟨h1, h2⟩ := lay_ok h.1
    obtain ⟨h3, h4⟩ := lays_ok h.2
    constructor
    · show (PyData.canLay0 (dtV x) && PyData.canLayAll0 (r.map dtV)) = true
      rw [h1, h3]
      rfl
    · show max (PyData.depth (dtV x)) (PyData.depthAll (r.map dtV)) = 0
      rw [h2, h4]
      rfl
theorem shaped_ok {xs : List V} (h : xs.all okV = true) : SeqAt.shaped (.list (xs.map dtV)) = true := by
  obtain ⟨h1, h2⟩ := lays_ok h
  unfold SeqAt.shaped
  rw [Bool.and_eq_true]
  refine ⟨h1, decide_eq_true ?_⟩
  show PyData.depthAll (xs.map dtV) + 1 ≤ 64
  rw [h2]
  decide
theorem eqv_ok : ∀ {x : V}, okV x = true → PyData.eqv (dtV x) (dtV x) = true
  | .non, _ => rfl
  | .bl b, _ => by simp [dtV, PyData.eqv]
  | .int i, _ => by simp [dtV, PyData.eqv]
  | .str x, _ => by simp [dtV, PyData.eqv]
  | .byt _, h => by cases h
  | .flt _, h => by cases h
  | .ref _, h => by cases h
  | .ty _, h => by cases h
theorem eqvs_ok : ∀ {xs : List V}, xs.all okV = true → PyData.eqvAll (xs.map dtV) (xs.map dtV) = true
  | [], _ => rfl
  | x :: r, h => by
    rw [List.all_cons, Bool.and_eq_true] at h
    show (PyData.eqv (dtV x) (dtV x) && PyData.eqvAll (r.map dtV) (r.map dtV)) = true
    rw [eqv_ok h.1, eqvs_ok h.2]
    rfl
theorem ne_lists {K : PySem.W.Frag} {H : Hp} {p q : Addr} {xs : List V} {Q : VK} (hp : SqL K H p xs) (hq : SqL K H q xs) (hf : xs.all okV = true) (k : Q (.bl false) H) : rNeD K (.ref p) (.ref q) H Q := by
  refine ⟨.list (xs.map dtV), .list (xs.map dtV), .lst hp (dps_ok hf), .lst hq (dps_ok hf), shaped_ok hf, shaped_ok hf, ?_⟩
  have e : PyData.eqv (.list (xs.map dtV)) (.list (xs.map dtV)) = true := eqvs_ok hf
  rw [e]
  exact k
/-- a value of a built-in type that is no object -/
theorem ty_ok {K : PySem.W.Frag} {H : Hp} : ∀ {x : V}, okV x = true → ∃ t, TyX K H x (.type t)
  | .non, _ => ⟨_, .base .non⟩
  | .bl b, _ => ⟨_, .base (.bl b)⟩
  | .int i, _ => ⟨_, .base (.int i)⟩
  | .str x, _ => ⟨_, .base (.str x)⟩
  | .byt _, h => by cases h
  | .flt _, h => by cases h
  | .ref _, h => by cases h
  | .ty _, h => by cases h
theorem tys_ok {K : PySem.W.Frag} : ∀ {x : V}, okV x = true → ∃ t, ∀ H : Hp, TyX K H x (.type t)
  | .non, _ => ⟨_, fun _ => .base .non⟩
  | .bl b, _ => ⟨_, fun _ => .base (.bl b)⟩
  | .int i, _ => ⟨_, fun _ => .base (.int i)⟩
  | .str x, _ => ⟨_, fun _ => .base (.str x)⟩
  | .byt _, h => by cases h
  | .flt _, h => by cases h
  | .ref _, h => by cases h
  | .ty _, h => by cases h
section
variable {K : PySem.W.Frag} {σ : L2.St} {H : Hp} {tl te : TE} {j : Nat} {vs : List Nat} {Q : VK}
/-- [e for c in a text] -/
theorem tlc_S (v : Nat → V) (z : Str) (htl : ∀ R : VK, R (.str z) H → tl σ H R) (hz : z.cps.size ≤ 100000) (hw : ∀ x, wipe ((wipe σ vs).set j (some x)) vs = wipe σ vs)
    (he : ∀ c ∈ z.cps.toList, ∀ H', Same H H' → ∀ R : VK, (∀ H2, Same H' H2 → R (v c) H2) → te ((wipe σ vs).set j (some (.str ⟨#[c]⟩))) H' R)
    (k : ∀ D H', H D = none → Same H H' → H' D = some (.lst (z.cps.toList.map v)) → Q (.ref D) H') : tLc (iStr tl) (gName j) tYes te vs σ H Q := by
  refine htl _ ⟨z, rfl, fun D hD => ?_⟩
  refine lc_it walk_str (fun i H' => Same H H' ∧ H' D = some (.lst ((z.cps.toList.take i).map v))) ⟨same_new hD, upd_same⟩ (fun _ _ _ _ => trivial) ?_ fun H' p => k D H' hD p.1 ?_
  · rintro i x H' H2 hi p ⟨rfl, c, hc, rfl⟩
    have hc2 : z.cps.toList[i]? = some c := by rw [Array.getElem?_toList]; exact hc
    have hm : c ∈ z.cps.toList := List.mem_of_getElem? hc2
    refine ⟨hw _, he c hm _ p.1 _ fun H3 s3 => ⟨_, s3 _ _ p.2, ?_, same_mut (p.1.trans s3) hD, ?_⟩⟩
    · rw [List.length_map, List.length_take]
      have e : sizeLine = 16777216 := by decide
      omega
    · rw [upd_same, List.take_add_one, hc2, List.map_append]
      rfl
  · have q := p.2
    rw [List.take_of_length_le (by simp)] at q
    exact q
end
/-- None and the ints from 0 to g -/
def valsTo (g : Int) : List V := .non :: rgV 0 (g + 1)
/-- all that is no list is as it was -/
def KeepNL (H H' : Hp) : Prop := ∀ b o, (∀ zs, o ≠ HO.lst zs) → H b = some o → H' b = some o
theorem KeepNL.of {H H' : Hp} (s : Same H H') : KeepNL H H' := fun b o _ e => s b o e
theorem KeepNL.lst {H : Hp} {D : Addr} {zs ys : List V} (h : H D = some (.lst zs)) : KeepNL H (upd H D (.lst ys)) := fun b o n e => by
  rw [upd_ne (fun q => by rw [q, h] at e; exact n zs (Option.some.inj e).symm)]
  exact e
section
variable {K : PySem.W.Frag} {σ : L2.St} {H : Hp} {tl te : TE} {j : Nat} {vs : List Nat} {Q : VK} {xs : List V}
/-- [e for x in xs], e making new objects (no lists among what is told of them) -/
theorem tlc_G (Rl : Nat → V → Hp → Prop) (mono : ∀ i y H H', KeepNL H H' → Rl i y H → Rl i y H') (htl : ∀ R : VK, (∀ a H1, Same H H1 → SqL K H1 a xs → R (.ref a) H1) → tl σ H R) (hz : xs.length ≤ 100000) (hw : ∀ x, wipe ((wipe σ vs).set j (some x)) vs = wipe σ vs)
    (he : ∀ i x, xs[i]? = some x → ∀ H', Same H H' → ∀ R : VK, (∀ y H2, Same H' H2 → Rl i y H2 → R y H2) → te ((wipe σ vs).set j (some x)) H' R)
    (k : ∀ D ys H', H D = none → Same H H' → H' D = some (.lst ys) → ys.length = xs.length → (∀ i y, ys[i]? = some y → Rl i y H') → Q (.ref D) H') : tLc (iList K tl) (gName j) tYes te vs σ H Q := by
  refine htl _ fun a H1 e1 hs => ⟨a, rfl, ⟨xs, hs⟩, fun D hD => ?_⟩
  refine lc_list (xs := xs) (fun i H' => Same H1 H' ∧ ∃ ys, H' D = some (.lst ys) ∧ ys.length = i ∧ ∀ m y, ys[m]? = some y → Rl m y H') ⟨same_new hD, [], upd_same, rfl, fun m y h => by simp at h⟩ (fun i H' _ p => p.1.seq hs) ?_ ?_
  · rintro i x H' hx ⟨s', ys, hys, hl, hr⟩
    have hi : i < xs.length := (List.getElem?_eq_some_iff.mp hx).1
    refine ⟨hw x, he i x hx H' (e1.trans s') _ fun y H2 s2 hy => ⟨ys, s2 _ _ hys, ?_, same_mut (s'.trans s2) hD, ys ++ [y], upd_same, by rw [List.length_append, hl]; rfl, fun m z hm => ?_⟩⟩
    · have e : sizeLine = 16777216 := by decide
      omega
    · have kp : KeepNL H2 (upd H2 D (.lst (ys ++ [y]))) := KeepNL.lst (s2 _ _ hys)
      by_cases hm2 : m < ys.length
      · rw [List.getElem?_append_left hm2] at hm
        exact mono m z _ _ kp (mono m z _ _ (KeepNL.of s2) (hr m z hm))
      · have hm3 : m = ys.length := by
          have h := (List.getElem?_eq_some_iff.mp hm).1
          rw [List.length_append] at h
          have : [y].length = 1 := rfl
          omega
        subst hm3
        rw [List.getElem?_append_right (Nat.le_refl _), Nat.sub_self] at hm
        obtain rfl : y = z := Option.some.inj hm
        rw [hl]
        exact mono i y _ _ kp hy
  · rintro H' ⟨s', ys, hys, hl, hr⟩
    exact k D ys H' (e1.free hD) (e1.trans s') hys hl hr
end
end Evl2
/-! ### own methods called by the language: len(x), v in x, x == y, of instances with a __dict__ -/
namespace Evl2
open PySem PySem.Spec PyProof.Rows L2
section
variable {X : Cx} {CX : CXT} {k : Nat} {f C : Addr} {fd : FuncData} {ps : List Str} {sp : Sp} {E : XK}
/-- an own function called at a place below the running body -/
theorem runA {A : Around} {pins : List (Addr × Obj)} {σ : L2.St} {H : Hp} {s : Shared} {Q : VK} {us : List Value} {vs : List V} (F : FnOk X.prog X.w X.K X.mg X.base CX k f fd ps sp) (hr : Room k A) (e0 : Env0 X.prog X.w X.K X.mg X.base A X.stack s H) (hb : Binds X.K fd ps []) (hx : Passes CX X E)
    (I : Inv X pins σ H s) (r : Vals vs us) (h : sp vs H Q E) : wpAny (model X.prog X.w) A (call (.ref f) us) (EP X pins σ Q) X.xe s := by
  have hl : us.length = ps.length := by rw [← r.length]; exact F.len _ _ _ _ h
  refine wpAny_call (codeAny_mono (F.run A X.stack s H ⟨us, []⟩ us vs Q E hr e0 (by
    have := hb s us I.kIn (by simpa using hl)
    simpa using this) r h) fun r s' hq => ?_)
  cases r with
  | error e => exact hx pins σ H s e s' I hq
  | ok fl =>
    cases fl with
    | ret u => exact I.after hq
    | next => exact False.elim hq
    | brk => exact False.elim hq
    | cont => exact False.elim hq
def rLenOwn (C : Addr) (sp : Sp) (E : XK) : List V → Hp → VK → Prop := fun xs H Q => ∃ a dx fs, xs = [V.ref a] ∧ H a = some (.ins C dx fs) ∧ sp [.ref a] H (fun z H' => ∃ i : Int, z = .int i ∧ (0 ≤ i ∧ i < 2 ^ 63) ∧ Q (.int i) H') E
/-- len(x), x with an own __len__ -/
theorem call_lenOwn (F : FnOk X.prog X.w X.K X.mg X.base CX k f fd ps sp) (hm : Meth X.K C "__len__" f) (hr : Room (k + 1) X.A) (hb : Binds X.K fd ps []) (hx : Passes CX X E) : CallR X (.builtin "len") (rLenOwn C sp E) := by
  intro pins s σ H xs us Q I r h
  obtain ⟨a, dx, fs, rfl, ha, q⟩ := h
  obtain ⟨u, rfl, ru⟩ := r.one
  cases (show u = Value.ref a from ru)
  obtain ⟨mA, J, _⟩ := ins_get I.hok ha
  obtain ⟨od, J, _⟩ := J.look
  obtain ⟨m, hF⟩ := I.fr
  refine PySem.W.len_K hF I.ok.mod.kin J hm.at_ hm.fn ?_
  refine wpAny_mono (runA (us := [.ref a]) (vs := [.ref a]) F hr.in1 I.env0.in1 hb hx I (.cons rfl .nil) q) (fun v s' z => ?_) fun _ _ e => e
  obtain ⟨z', H', I', rz, i, ei, hi, qz⟩ := z
  subst ei
  obtain ⟨t, e⟩ := (show ∃ t, v = Value.int i t from rz)
  cases e
  exact ⟨hi, .int i, H', I'.tok _, ⟨_, rfl⟩, qz⟩
def rInOwn (C : Addr) (sp : Sp) (E : XK) : R2 := fun x y H Q => ∃ a dx fs, y = .ref a ∧ H a = some (.ins C dx fs) ∧ sp [y, x] H (fun z H' => ∃ b, z = .bl b ∧ Q (.bl b) H') E
/-- v in x, x with an own __contains__ that answers a Bool -/
theorem op_inOwn (F : FnOk X.prog X.w X.K X.mg X.base CX k f fd ps sp) (hm : Meth X.K C "__contains__" f) (hr : Room k X.A) (hb : Binds X.K fd ps []) (hx : Passes CX X E) : OpR X (compareOp .In) (rInOwn C sp E) := by
  intro pins s σ H x y v u Q I rx ry h
  obtain ⟨a, dx, fs, rfl, ha, q⟩ := h
  cases (show u = Value.ref a from ry)
  obtain ⟨mA, J, _⟩ := ins_get I.hok ha
  obtain ⟨od, J, _⟩ := J.look
  obtain ⟨m, hF⟩ := I.fr
  refine PySem.W.in_K hF I.ok.mod.kin J hm.at_ hm.fn ?_
  refine wpAny_mono (runA (us := [.ref a, v]) (vs := [.ref a, x]) F hr I.env0 hb hx I (.cons rfl (.cons rx .nil)) q) (fun r s' z => ?_) fun _ _ e => e
  obtain ⟨z', H', I', rz, b, eb, qz⟩ := z
  subst eb
  cases (show r = Value.bool b from rz)
  exact wpAny_truthy_bool ⟨.bl b, H', I', rfl, qz⟩
def rEqOwn (C : Addr) (sp : Sp) (E : XK) : R2 := fun x y H Q => ∃ a dx fs b dy gs, x = .ref a ∧ y = .ref b ∧ H a = some (.ins C dx fs) ∧ H b = some (.ins C dy gs) ∧ sp [x, y] H (fun z H' => ∃ c, z = .bl c ∧ Q (.bl c) H') E
/-- x == y, both of a class with an own __eq__ that answers a Bool -/
theorem op_eqOwn (F : FnOk X.prog X.w X.K X.mg X.base CX k f fd ps sp) (hm : Meth X.K C "__eq__" f) (hr : Room k X.A) (hb : Binds X.K fd ps []) (hx : Passes CX X E) : OpR X (compareOp .Eq) (rEqOwn C sp E) := by
  intro pins s σ H x y v u Q I rx ry h
  obtain ⟨a, dx, fs, b, dy, gs, rfl, rfl, ha, hb', q⟩ := h
  cases (show v = Value.ref a from rx)
  cases (show u = Value.ref b from ry)
  obtain ⟨mA, J, _⟩ := ins_get I.hok ha
  obtain ⟨od, J, _⟩ := J.look
  obtain ⟨mB, J', _⟩ := ins_get I.hok hb'
  obtain ⟨od', J', _⟩ := J'.look
  obtain ⟨m, hF⟩ := I.fr
  show wpAny (model X.prog X.w) X.A (richCompare .Eq (.ref a) (.ref b)) (EP X pins σ Q) X.xe s
  refine PySem.W.cmp_K (op := .Eq) (tb := .ref C) hr.units0 hF I.ok.mod.kin J J'.type (by simp [PySem.W.notFirst]) hm.at_ hm.fn ?_
  refine wpAny_mono (runA (us := [.ref a, .ref b]) (vs := [.ref a, .ref b]) F hr I.env0 hb hx I (.cons rfl (.cons rfl .nil)) q) (fun r s' z => ?_) fun _ _ e => e
  obtain ⟨z', H', I', rz, c, ec, qz⟩ := z
  subst ec
  cases (show r = Value.bool c from rz)
  exact ⟨.bl c, H', I', rfl, qz⟩
end
end Evl2
/-! ### comprehensions over enumerate -/
namespace Evl2
open PySem PySem.Spec PyProof.Rows L2
section
variable {K : PySem.W.Frag} {σ : L2.St} {H : Hp} {ta : TA} {te : TE} {j1 j2 : Nat} {vs : List Nat} {Q : VK} {xs : List V}
/-- [e for i, x in enumerate(xs)], e making new objects (no lists among what is told of them) -/
theorem tlc_GE (Rl : Nat → V → Hp → Prop) (mono : ∀ i y H H', KeepNL H H' → Rl i y H → Rl i y H') (hta : ∀ R : List V → Hp → Prop, (∀ a H1, Same H H1 → SqL K H1 a xs → R [.ref a] H1) → ta σ H R) (hz : xs.length ≤ 100000) (hw : ∀ x y, wipe (((wipe σ vs).set j1 (some x)).set j2 (some y)) vs = wipe σ vs)
    (he : ∀ i x, xs[i]? = some x → ∀ H', Same H H' → ∀ R : VK, (∀ y H2, Same H' H2 → Rl i y H2 → R y H2) → te (((wipe σ vs).set j1 (some (.int (i : Nat)))).set j2 (some x)) H' R)
    (k : ∀ D ys H', H D = none → Same H H' → H' D = some (.lst ys) → ys.length = xs.length → (∀ i y, ys[i]? = some y → Rl i y H') → Q (.ref D) H') : tLc (iEnum K ta) (gTup K 2 (gCons (gName j1) (gCons (gName j2) gNil))) tYes te vs σ H Q := by
  refine hta _ fun a H1 e1 hs => ⟨a, xs, rfl, hs, fun D hD => ?_⟩
  refine lc_it walk_enum (fun i H' => Same H1 H' ∧ ∃ ys, H' D = some (.lst ys) ∧ ys.length = i ∧ ∀ m y, ys[m]? = some y → Rl m y H') ⟨same_new hD, [], upd_same, rfl, fun m y h => by simp at h⟩ (fun i H' _ p => p.1.seq hs) ?_ ?_
  · rintro i v H2 H3 hi ⟨s', ys, hys, hl, hr⟩ ⟨T, x', y', rfl, nT, rfl, ex, ey⟩
    obtain rfl := Option.some.inj ex
    have ey : xs[i]? = some y' := ey
    have st : Same H2 (upd H2 T (.tup [.int (i : Nat), y'])) := same_new nT
    refine ⟨T, _, rfl, sqT_of upd_same, rfl, _, _, rfl, _, _, rfl, rfl, hw _ _, he i y' ey _ (e1.trans (s'.trans st)) _ fun y H4 s2 hy => ⟨ys, s2 _ _ (st _ _ hys), ?_, same_mut (s'.trans (st.trans s2)) hD, ys ++ [y], upd_same, by rw [List.length_append, hl]; rfl, fun m z hm => ?_⟩⟩
    · have e : sizeLine = 16777216 := by decide
      omega
    · have kp : KeepNL H4 (upd H4 D (.lst (ys ++ [y]))) := KeepNL.lst (s2 _ _ (st _ _ hys))
      by_cases hm2 : m < ys.length
      · rw [List.getElem?_append_left hm2] at hm
        exact mono m z _ _ kp (mono m z _ _ (KeepNL.of (st.trans s2)) (hr m z hm))
      · have hm3 : m = ys.length := by
          have h := (List.getElem?_eq_some_iff.mp hm).1
          rw [List.length_append] at h
          have : [y].length = 1 := rfl
          omega
        subst hm3
        rw [List.getElem?_append_right (Nat.le_refl _), Nat.sub_self] at hm
        obtain rfl : y = z := Option.some.inj hm
        rw [hl]
        exact mono i y _ _ kp hy
  · rintro H' ⟨s', ys, hys, hl, hr⟩
    exact k D ys H' (e1.free hD) (e1.trans s') hys hl hr
end
end Evl2

namespace ER
open PySem PySem.Spec PyProof.Rows L2 Evl2
def top (i : Nat) : Stmt := PySem.Challenge.pw_editionrows_k63_whole_tuples_that_show_u.main.body.getD i (.Pass ⟨0, 0, 0, 0⟩)
abbrev s__wall : Stmt := top 0
theorem sc__wall : FnScope ["k"] ["k"] (defScope s__wall) := ⟨rfl, rfl, rfl, by decide +kernel, rfl, by decide +kernel, by decide +kernel⟩
def d__wall : He.DefD := ⟨("_wall", none), "_wall", "_wall", defArgs s__wall, defBody s__wall, defScope s__wall, [], []⟩
abbrev s_BadColumn___init__ : Stmt := inClass (top 3) 0
theorem sc_BadColumn___init__ : FnScope ["self", "index"] ["self", "index"] (defScope s_BadColumn___init__) := ⟨rfl, rfl, rfl, by decide +kernel, rfl, by decide +kernel, by decide +kernel⟩
def d_BadColumn___init__ : He.DefD := ⟨("BadColumn", some "__init__"), "__init__", "BadColumn.__init__", defArgs s_BadColumn___init__, defBody s_BadColumn___init__, defScope s_BadColumn___init__, [], []⟩
abbrev s_BadPart___init__ : Stmt := inClass (top 4) 0
theorem sc_BadPart___init__ : FnScope ["self", "part"] ["self", "part"] (defScope s_BadPart___init__) := ⟨rfl, rfl, rfl, by decide +kernel, rfl, by decide +kernel, by decide +kernel⟩
def d_BadPart___init__ : He.DefD := ⟨("BadPart", some "__init__"), "__init__", "BadPart.__init__", defArgs s_BadPart___init__, defBody s_BadPart___init__, defScope s_BadPart___init__, [], []⟩
abbrev s_BadChange___init__ : Stmt := inClass (top 5) 0
theorem sc_BadChange___init__ : FnScope ["self", "index"] ["self", "index"] (defScope s_BadChange___init__) := ⟨rfl, rfl, rfl, by decide +kernel, rfl, by decide +kernel, by decide +kernel⟩
def d_BadChange___init__ : He.DefD := ⟨("BadChange", some "__init__"), "__init__", "BadChange.__init__", defArgs s_BadChange___init__, defBody s_BadChange___init__, defScope s_BadChange___init__, [], []⟩
abbrev s_BadEdition___init__ : Stmt := inClass (top 6) 0
theorem sc_BadEdition___init__ : FnScope ["self", "edition"] ["self", "edition"] (defScope s_BadEdition___init__) := ⟨rfl, rfl, rfl, by decide +kernel, rfl, by decide +kernel, by decide +kernel⟩
def d_BadEdition___init__ : He.DefD := ⟨("BadEdition", some "__init__"), "__init__", "BadEdition.__init__", defArgs s_BadEdition___init__, defBody s_BadEdition___init__, defScope s_BadEdition___init__, [], []⟩
abbrev s_BadRow___init__ : Stmt := inClass (top 7) 0
theorem sc_BadRow___init__ : FnScope ["self", "index"] ["self", "index"] (defScope s_BadRow___init__) := ⟨rfl, rfl, rfl, by decide +kernel, rfl, by decide +kernel, by decide +kernel⟩
def d_BadRow___init__ : He.DefD := ⟨("BadRow", some "__init__"), "__init__", "BadRow.__init__", defArgs s_BadRow___init__, defBody s_BadRow___init__, defScope s_BadRow___init__, [], []⟩
abbrev s_UnknownName___init__ : Stmt := inClass (top 8) 0
theorem sc_UnknownName___init__ : FnScope ["self", "name"] ["self", "name"] (defScope s_UnknownName___init__) := ⟨rfl, rfl, rfl, by decide +kernel, rfl, by decide +kernel, by decide +kernel⟩
def d_UnknownName___init__ : He.DefD := ⟨("UnknownName", some "__init__"), "__init__", "UnknownName.__init__", defArgs s_UnknownName___init__, defBody s_UnknownName___init__, defScope s_UnknownName___init__, [], []⟩
abbrev s_TooMany___init__ : Stmt := inClass (top 9) 0
theorem sc_TooMany___init__ : FnScope ["self", "limit"] ["self", "limit"] (defScope s_TooMany___init__) := ⟨rfl, rfl, rfl, by decide +kernel, rfl, by decide +kernel, by decide +kernel⟩
def d_TooMany___init__ : He.DefD := ⟨("TooMany", some "__init__"), "__init__", "TooMany.__init__", defArgs s_TooMany___init__, defBody s_TooMany___init__, defScope s_TooMany___init__, [], []⟩
abbrev s_is_whole : Stmt := top 15
theorem sc_is_whole : FnScope ["value"] ["value"] (defScope s_is_whole) := ⟨rfl, rfl, rfl, by decide +kernel, rfl, by decide +kernel, by decide +kernel⟩
def d_is_whole : He.DefD := ⟨("is_whole", none), "is_whole", "is_whole", defArgs s_is_whole, defBody s_is_whole, defScope s_is_whole, [], []⟩
abbrev s_is_list : Stmt := top 16
theorem sc_is_list : FnScope ["value"] ["value"] (defScope s_is_list) := ⟨rfl, rfl, rfl, by decide +kernel, rfl, by decide +kernel, by decide +kernel⟩
def d_is_list : He.DefD := ⟨("is_list", none), "is_list", "is_list", defArgs s_is_list, defBody s_is_list, defScope s_is_list, [], []⟩
abbrev s_is_word : Stmt := top 17
theorem sc_is_word : FnScope ["value", "words"] ["value", "words"] (defScope s_is_word) := ⟨rfl, rfl, rfl, by decide +kernel, rfl, by decide +kernel, by decide +kernel⟩
def d_is_word : He.DefD := ⟨("is_word", none), "is_word", "is_word", defArgs s_is_word, defBody s_is_word, defScope s_is_word, [], []⟩
abbrev s_is_name : Stmt := top 18
theorem sc_is_name : FnScope ["value", "letter"] ["value"] (defScope s_is_name) := ⟨rfl, rfl, rfl, by decide +kernel, rfl, by decide +kernel, by decide +kernel⟩
def d_is_name : He.DefD := ⟨("is_name", none), "is_name", "is_name", defArgs s_is_name, defBody s_is_name, defScope s_is_name, [], []⟩
abbrev s_is_greatest : Stmt := top 19
theorem sc_is_greatest : FnScope ["value"] ["value"] (defScope s_is_greatest) := ⟨rfl, rfl, rfl, by decide +kernel, rfl, by decide +kernel, by decide +kernel⟩
def d_is_greatest : He.DefD := ⟨("is_greatest", none), "is_greatest", "is_greatest", defArgs s_is_greatest, defBody s_is_greatest, defScope s_is_greatest, [], []⟩
abbrev s_is_value : Stmt := top 20
theorem sc_is_value : FnScope ["value"] ["value"] (defScope s_is_value) := ⟨rfl, rfl, rfl, by decide +kernel, rfl, by decide +kernel, by decide +kernel⟩
def d_is_value : He.DefD := ⟨("is_value", none), "is_value", "is_value", defArgs s_is_value, defBody s_is_value, defScope s_is_value, [], []⟩
abbrev s_is_within : Stmt := top 21
theorem sc_is_within : FnScope ["value", "greatest"] ["value", "greatest"] (defScope s_is_within) := ⟨rfl, rfl, rfl, by decide +kernel, rfl, by decide +kernel, by decide +kernel⟩
def d_is_within : He.DefD := ⟨("is_within", none), "is_within", "is_within", defArgs s_is_within, defBody s_is_within, defScope s_is_within, [], []⟩
abbrev s_is_missing : Stmt := top 22
theorem sc_is_missing : FnScope ["value"] ["value"] (defScope s_is_missing) := ⟨rfl, rfl, rfl, by decide +kernel, rfl, by decide +kernel, by decide +kernel⟩
def d_is_missing : He.DefD := ⟨("is_missing", none), "is_missing", "is_missing", defArgs s_is_missing, defBody s_is_missing, defScope s_is_missing, [], []⟩
abbrev s_Column___init__ : Stmt := inClass (top 25) 0
theorem sc_Column___init__ : FnScope ["self", "name", "greatest", "default", "number"] ["self", "name", "greatest", "default", "number"] (defScope s_Column___init__) := ⟨rfl, rfl, rfl, by decide +kernel, rfl, by decide +kernel, by decide +kernel⟩
def d_Column___init__ : He.DefD := ⟨("Column", some "__init__"), "__init__", "Column.__init__", defArgs s_Column___init__, defBody s_Column___init__, defScope s_Column___init__, [.non], [("number", (.int 0))]⟩
abbrev s_Column___eq__ : Stmt := inClass (top 25) 1
theorem sc_Column___eq__ : FnScope ["self", "other"] ["self", "other"] (defScope s_Column___eq__) := ⟨rfl, rfl, rfl, by decide +kernel, rfl, by decide +kernel, by decide +kernel⟩
def d_Column___eq__ : He.DefD := ⟨("Column", some "__eq__"), "__eq__", "Column.__eq__", defArgs s_Column___eq__, defBody s_Column___eq__, defScope s_Column___eq__, [], []⟩
abbrev s_Column___contains__ : Stmt := inClass (top 25) 2
theorem sc_Column___contains__ : FnScope ["self", "x"] ["self", "x"] (defScope s_Column___contains__) := ⟨rfl, rfl, rfl, by decide +kernel, rfl, by decide +kernel, by decide +kernel⟩
def d_Column___contains__ : He.DefD := ⟨("Column", some "__contains__"), "__contains__", "Column.__contains__", defArgs s_Column___contains__, defBody s_Column___contains__, defScope s_Column___contains__, [], []⟩
abbrev s_Column_all_values : Stmt := inClass (top 25) 3
theorem sc_Column_all_values : FnScope ["self"] ["self"] (defScope s_Column_all_values) := ⟨rfl, rfl, rfl, by decide +kernel, rfl, by decide +kernel, by decide +kernel⟩
def d_Column_all_values : He.DefD := ⟨("Column", some "all_values"), "all_values", "Column.all_values", defArgs s_Column_all_values, defBody s_Column_all_values, defScope s_Column_all_values, [], []⟩
abbrev s_Column_changed : Stmt := inClass (top 25) 4
theorem sc_Column_changed : FnScope ["self", "part", "value", "parts"] ["self", "part", "value"] (defScope s_Column_changed) := ⟨rfl, rfl, rfl, by decide +kernel, rfl, by decide +kernel, by decide +kernel⟩
def d_Column_changed : He.DefD := ⟨("Column", some "changed"), "changed", "Column.changed", defArgs s_Column_changed, defBody s_Column_changed, defScope s_Column_changed, [], []⟩
abbrev s_column_named : Stmt := top 26
theorem sc_column_named : FnScope ["columns", "name", "column"] ["columns", "name"] (defScope s_column_named) := ⟨rfl, rfl, rfl, by decide +kernel, rfl, by decide +kernel, by decide +kernel⟩
def d_column_named : He.DefD := ⟨("column_named", none), "column_named", "column_named", defArgs s_column_named, defBody s_column_named, defScope s_column_named, [], []⟩
abbrev s_column_numbered : Stmt := top 27
theorem sc_column_numbered : FnScope ["columns", "number", "column"] ["columns", "number"] (defScope s_column_numbered) := ⟨rfl, rfl, rfl, by decide +kernel, rfl, by decide +kernel, by decide +kernel⟩
def d_column_numbered : He.DefD := ⟨("column_numbered", none), "column_numbered", "column_numbered", defArgs s_column_numbered, defBody s_column_numbered, defScope s_column_numbered, [], []⟩
abbrev s_is_change : Stmt := top 31
theorem sc_is_change : FnScope ["value"] ["value"] (defScope s_is_change) := ⟨rfl, rfl, rfl, by decide +kernel, rfl, by decide +kernel, by decide +kernel⟩
def d_is_change : He.DefD := ⟨("is_change", none), "is_change", "is_change", defArgs s_is_change, defBody s_is_change, defScope s_is_change, [], []⟩
abbrev s_has_parts : Stmt := top 32
theorem sc_has_parts : FnScope ["kind", "parts"] ["kind", "parts"] (defScope s_has_parts) := ⟨rfl, rfl, rfl, by decide +kernel, rfl, by decide +kernel, by decide +kernel⟩
def d_has_parts : He.DefD := ⟨("has_parts", none), "has_parts", "has_parts", defArgs s_has_parts, defBody s_has_parts, defScope s_has_parts, [], []⟩
abbrev s_is_single_part : Stmt := top 33
theorem sc_is_single_part : FnScope ["kind", "part"] ["kind", "part"] (defScope s_is_single_part) := ⟨rfl, rfl, rfl, by decide +kernel, rfl, by decide +kernel, by decide +kernel⟩
def d_is_single_part : He.DefD := ⟨("is_single_part", none), "is_single_part", "is_single_part", defArgs s_is_single_part, defBody s_is_single_part, defScope s_is_single_part, [], []⟩
abbrev s_is_way : Stmt := top 34
theorem sc_is_way : FnScope ["value"] ["value"] (defScope s_is_way) := ⟨rfl, rfl, rfl, by decide +kernel, rfl, by decide +kernel, by decide +kernel⟩
def d_is_way : He.DefD := ⟨("is_way", none), "is_way", "is_way", defArgs s_is_way, defBody s_is_way, defScope s_is_way, [], []⟩
abbrev s_kind_of : Stmt := top 35
theorem sc_kind_of : FnScope ["change"] ["change"] (defScope s_kind_of) := ⟨rfl, rfl, rfl, by decide +kernel, rfl, by decide +kernel, by decide +kernel⟩
def d_kind_of : He.DefD := ⟨("kind_of", none), "kind_of", "kind_of", defArgs s_kind_of, defBody s_kind_of, defScope s_kind_of, [], []⟩
abbrev s_hindrance : Stmt := top 36
theorem sc_hindrance : FnScope ["columns", "change", "kind", "column"] ["columns", "change"] (defScope s_hindrance) := ⟨rfl, rfl, rfl, by decide +kernel, rfl, by decide +kernel, by decide +kernel⟩
def d_hindrance : He.DefD := ⟨("hindrance", none), "hindrance", "hindrance", defArgs s_hindrance, defBody s_hindrance, defScope s_hindrance, [], []⟩
abbrev s_add_hindrance : Stmt := top 37
theorem sc_add_hindrance : FnScope ["columns", "namesake", "change"] ["columns", "namesake", "change"] (defScope s_add_hindrance) := ⟨rfl, rfl, rfl, by decide +kernel, rfl, by decide +kernel, by decide +kernel⟩
def d_add_hindrance : He.DefD := ⟨("add_hindrance", none), "add_hindrance", "add_hindrance", defArgs s_add_hindrance, defBody s_add_hindrance, defScope s_add_hindrance, [], []⟩
abbrev s_columns_behind : Stmt := top 38
theorem sc_columns_behind : FnScope ["columns", "change", "number", "kind", "name", "column"] ["columns", "change", "number"] (defScope s_columns_behind) := ⟨rfl, rfl, rfl, by decide +kernel, rfl, by decide +kernel, by decide +kernel⟩
def d_columns_behind : He.DefD := ⟨("columns_behind", none), "columns_behind", "columns_behind", defArgs s_columns_behind, defBody s_columns_behind, defScope s_columns_behind, [], []⟩
abbrev s_changed_column : Stmt := top 39
theorem sc_changed_column : FnScope ["column", "change", "kind", "default"] ["column", "change"] (defScope s_changed_column) := ⟨rfl, rfl, rfl, by decide +kernel, rfl, by decide +kernel, by decide +kernel⟩
def d_changed_column : He.DefD := ⟨("changed_column", none), "changed_column", "changed_column", defArgs s_changed_column, defBody s_changed_column, defScope s_changed_column, [], []⟩
abbrev s_changed_value : Stmt := top 40
theorem sc_changed_value : FnScope ["column", "change", "value"] ["column", "change", "value"] (defScope s_changed_value) := ⟨rfl, rfl, rfl, by decide +kernel, rfl, by decide +kernel, by decide +kernel⟩
def d_changed_value : He.DefD := ⟨("changed_value", none), "changed_value", "changed_value", defArgs s_changed_value, defBody s_changed_value, defScope s_changed_value, [], []⟩
abbrev s_value_above : Stmt := top 41
theorem sc_value_above : FnScope ["change"] ["change"] (defScope s_value_above) := ⟨rfl, rfl, rfl, by decide +kernel, rfl, by decide +kernel, by decide +kernel⟩
def d_value_above : He.DefD := ⟨("value_above", none), "value_above", "value_above", defArgs s_value_above, defBody s_value_above, defScope s_value_above, [], []⟩
abbrev s_is_edition : Stmt := top 44
theorem sc_is_edition : FnScope ["history", "value"] ["history", "value"] (defScope s_is_edition) := ⟨rfl, rfl, rfl, by decide +kernel, rfl, by decide +kernel, by decide +kernel⟩
def d_is_edition : He.DefD := ⟨("is_edition", none), "is_edition", "is_edition", defArgs s_is_edition, defBody s_is_edition, defScope s_is_edition, [], []⟩
abbrev s_edition_of : Stmt := top 45
theorem sc_edition_of : FnScope ["history", "edition"] ["history", "edition"] (defScope s_edition_of) := ⟨rfl, rfl, rfl, by decide +kernel, rfl, by decide +kernel, by decide +kernel⟩
def d_edition_of : He.DefD := ⟨("edition_of", none), "edition_of", "edition_of", defArgs s_edition_of, defBody s_edition_of, defScope s_edition_of, [], []⟩
abbrev s_numbered_columns : Stmt := top 46
theorem sc_numbered_columns : FnScope ["columns", "names", "index", "column"] ["columns"] (defScope s_numbered_columns) := ⟨rfl, rfl, rfl, by decide +kernel, rfl, by decide +kernel, by decide +kernel⟩
def d_numbered_columns : He.DefD := ⟨("numbered_columns", none), "numbered_columns", "numbered_columns", defArgs s_numbered_columns, defBody s_numbered_columns, defScope s_numbered_columns, [], []⟩
abbrev s_columns_of_editions : Stmt := top 47
theorem sc_columns_of_editions : FnScope ["first", "changes", "editions", "number", "index", "change", "columns"] ["first", "changes"] (defScope s_columns_of_editions) := ⟨rfl, rfl, rfl, by decide +kernel, rfl, by decide +kernel, by decide +kernel⟩
def d_columns_of_editions : He.DefD := ⟨("columns_of_editions", none), "columns_of_editions", "columns_of_editions", defArgs s_columns_of_editions, defBody s_columns_of_editions, defScope s_columns_of_editions, [], []⟩
abbrev s_births : Stmt := top 48
theorem sc_births : FnScope ["editions", "born", "edition", "columns", "column"] ["editions"] (defScope s_births) := ⟨rfl, rfl, rfl, by decide +kernel, rfl, by decide +kernel, by decide +kernel⟩
def d_births : He.DefD := ⟨("births", none), "births", "births", defArgs s_births, defBody s_births, defScope s_births, [], []⟩
abbrev s_drops : Stmt := top 49
theorem sc_drops : FnScope ["editions", "many", "dropped", "edition", "column"] ["editions", "many"] (defScope s_drops) := ⟨rfl, rfl, rfl, by decide +kernel, rfl, by decide +kernel, by decide +kernel⟩
def d_drops : He.DefD := ⟨("drops", none), "drops", "drops", defArgs s_drops, defBody s_drops, defScope s_drops, [], []⟩
abbrev s_History___init__ : Stmt := inClass (top 50) 0
theorem sc_History___init__ : FnScope ["self", "columns", "changes"] ["self", "columns", "changes"] (defScope s_History___init__) := ⟨rfl, rfl, rfl, by decide +kernel, rfl, by decide +kernel, by decide +kernel⟩
def d_History___init__ : He.DefD := ⟨("History", some "__init__"), "__init__", "History.__init__", defArgs s_History___init__, defBody s_History___init__, defScope s_History___init__, [(.adr (He.dflAt ("History", some "__init__") 0))], []⟩
abbrev s_History___eq__ : Stmt := inClass (top 50) 1
theorem sc_History___eq__ : FnScope ["self", "other"] ["self", "other"] (defScope s_History___eq__) := ⟨rfl, rfl, rfl, by decide +kernel, rfl, by decide +kernel, by decide +kernel⟩
def d_History___eq__ : He.DefD := ⟨("History", some "__eq__"), "__eq__", "History.__eq__", defArgs s_History___eq__, defBody s_History___eq__, defScope s_History___eq__, [], []⟩
abbrev s_History___len__ : Stmt := inClass (top 50) 2
theorem sc_History___len__ : FnScope ["self"] ["self"] (defScope s_History___len__) := ⟨rfl, rfl, rfl, by decide +kernel, rfl, by decide +kernel, by decide +kernel⟩
def d_History___len__ : He.DefD := ⟨("History", some "__len__"), "__len__", "History.__len__", defArgs s_History___len__, defBody s_History___len__, defScope s_History___len__, [], []⟩
abbrev s_History___getitem__ : Stmt := inClass (top 50) 3
theorem sc_History___getitem__ : FnScope ["self", "at"] ["self", "at"] (defScope s_History___getitem__) := ⟨rfl, rfl, rfl, by decide +kernel, rfl, by decide +kernel, by decide +kernel⟩
def d_History___getitem__ : He.DefD := ⟨("History", some "__getitem__"), "__getitem__", "History.__getitem__", defArgs s_History___getitem__, defBody s_History___getitem__, defScope s_History___getitem__, [], []⟩
abbrev s_History___iter__ : Stmt := inClass (top 50) 4
theorem sc_History___iter__ : FnScope ["self"] ["self"] (defScope s_History___iter__) := ⟨rfl, rfl, rfl, by decide +kernel, rfl, by decide +kernel, by decide +kernel⟩
def d_History___iter__ : He.DefD := ⟨("History", some "__iter__"), "__iter__", "History.__iter__", defArgs s_History___iter__, defBody s_History___iter__, defScope s_History___iter__, [], []⟩
abbrev s_History_first_columns : Stmt := inClass (top 50) 5
theorem sc_History_first_columns : FnScope ["self"] ["self"] (defScope s_History_first_columns) := ⟨rfl, rfl, rfl, by decide +kernel, rfl, by decide +kernel, by decide +kernel⟩
def d_History_first_columns : He.DefD := ⟨("History", some "first_columns"), "first_columns", "History.first_columns", defArgs s_History_first_columns, defBody s_History_first_columns, defScope s_History_first_columns, [], []⟩
abbrev s_History_columns : Stmt := inClass (top 50) 6
theorem sc_History_columns : FnScope ["self", "edition"] ["self", "edition"] (defScope s_History_columns) := ⟨rfl, rfl, rfl, by decide +kernel, rfl, by decide +kernel, by decide +kernel⟩
def d_History_columns : He.DefD := ⟨("History", some "columns"), "columns", "History.columns", defArgs s_History_columns, defBody s_History_columns, defScope s_History_columns, [.non], []⟩
abbrev s_History_changes_told : Stmt := inClass (top 50) 7
theorem sc_History_changes_told : FnScope ["self"] ["self"] (defScope s_History_changes_told) := ⟨rfl, rfl, rfl, by decide +kernel, rfl, by decide +kernel, by decide +kernel⟩
def d_History_changes_told : He.DefD := ⟨("History", some "changes_told"), "changes_told", "History.changes_told", defArgs s_History_changes_told, defBody s_History_changes_told, defScope s_History_changes_told, [], []⟩
abbrev s_History_column : Stmt := inClass (top 50) 8
theorem sc_History_column : FnScope ["self", "name", "edition", "found"] ["self", "name", "edition"] (defScope s_History_column) := ⟨rfl, rfl, rfl, by decide +kernel, rfl, by decide +kernel, by decide +kernel⟩
def d_History_column : He.DefD := ⟨("History", some "column"), "column", "History.column", defArgs s_History_column, defBody s_History_column, defScope s_History_column, [], [("edition", .non)]⟩
abbrev s_History_by_number : Stmt := inClass (top 50) 9
theorem sc_History_by_number : FnScope ["self", "number", "edition"] ["self", "number", "edition"] (defScope s_History_by_number) := ⟨rfl, rfl, rfl, by decide +kernel, rfl, by decide +kernel, by decide +kernel⟩
def d_History_by_number : He.DefD := ⟨("History", some "by_number"), "by_number", "History.by_number", defArgs s_History_by_number, defBody s_History_by_number, defScope s_History_by_number, [], [("edition", .non)]⟩
abbrev s_History_numbers : Stmt := inClass (top 50) 10
theorem sc_History_numbers : FnScope ["self"] ["self"] (defScope s_History_numbers) := ⟨rfl, rfl, rfl, by decide +kernel, rfl, by decide +kernel, by decide +kernel⟩
def d_History_numbers : He.DefD := ⟨("History", some "numbers"), "numbers", "History.numbers", defArgs s_History_numbers, defBody s_History_numbers, defScope s_History_numbers, [], []⟩
abbrev s_History_born : Stmt := inClass (top 50) 11
theorem sc_History_born : FnScope ["self", "number"] ["self", "number"] (defScope s_History_born) := ⟨rfl, rfl, rfl, by decide +kernel, rfl, by decide +kernel, by decide +kernel⟩
def d_History_born : He.DefD := ⟨("History", some "born"), "born", "History.born", defArgs s_History_born, defBody s_History_born, defScope s_History_born, [], []⟩
abbrev s_History_dropped : Stmt := inClass (top 50) 12
theorem sc_History_dropped : FnScope ["self", "number"] ["self", "number"] (defScope s_History_dropped) := ⟨rfl, rfl, rfl, by decide +kernel, rfl, by decide +kernel, by decide +kernel⟩
def d_History_dropped : He.DefD := ⟨("History", some "dropped"), "dropped", "History.dropped", defArgs s_History_dropped, defBody s_History_dropped, defScope s_History_dropped, [], []⟩
abbrev s_History_then : Stmt := inClass (top 50) 13
theorem sc_History_then : FnScope ["self", "change"] ["self", "change"] (defScope s_History_then) := ⟨rfl, rfl, rfl, by decide +kernel, rfl, by decide +kernel, by decide +kernel⟩
def d_History_then : He.DefD := ⟨("History", some "then"), "then", "History.then", defArgs s_History_then, defBody s_History_then, defScope s_History_then, [], []⟩
abbrev s_History_back : Stmt := inClass (top 50) 14
theorem sc_History_back : FnScope ["self"] ["self"] (defScope s_History_back) := ⟨rfl, rfl, rfl, by decide +kernel, rfl, by decide +kernel, by decide +kernel⟩
def d_History_back : He.DefD := ⟨("History", some "back"), "back", "History.back", defArgs s_History_back, defBody s_History_back, defScope s_History_back, [], []⟩
abbrev s_History_up_to : Stmt := inClass (top 50) 15
theorem sc_History_up_to : FnScope ["self", "edition"] ["self", "edition"] (defScope s_History_up_to) := ⟨rfl, rfl, rfl, by decide +kernel, rfl, by decide +kernel, by decide +kernel⟩
def d_History_up_to : He.DefD := ⟨("History", some "up_to"), "up_to", "History.up_to", defArgs s_History_up_to, defBody s_History_up_to, defScope s_History_up_to, [], []⟩
abbrev s_History_behind : Stmt := inClass (top 50) 16
theorem sc_History_behind : FnScope ["self", "edition"] ["self", "edition"] (defScope s_History_behind) := ⟨rfl, rfl, rfl, by decide +kernel, rfl, by decide +kernel, by decide +kernel⟩
def d_History_behind : He.DefD := ⟨("History", some "behind"), "behind", "History.behind", defArgs s_History_behind, defBody s_History_behind, defScope s_History_behind, [], []⟩
abbrev s_is_given : Stmt := top 51
theorem sc_is_given : FnScope ["history", "value"] ["history", "value"] (defScope s_is_given) := ⟨rfl, rfl, rfl, by decide +kernel, rfl, by decide +kernel, by decide +kernel⟩
def d_is_given : He.DefD := ⟨("is_given", none), "is_given", "is_given", defArgs s_is_given, defBody s_is_given, defScope s_is_given, [], []⟩
abbrev s_changed_row : Stmt := top 53
theorem sc_changed_row : FnScope ["columns", "change", "row", "kind", "changed", "column", "value"] ["columns", "change", "row"] (defScope s_changed_row) := ⟨rfl, rfl, rfl, by decide +kernel, rfl, by decide +kernel, by decide +kernel⟩
def d_changed_row : He.DefD := ⟨("changed_row", none), "changed_row", "changed_row", defArgs s_changed_row, defBody s_changed_row, defScope s_changed_row, [], []⟩
abbrev s_is_stored : Stmt := top 55
theorem sc_is_stored : FnScope ["history", "value", "edition", "values", "columns", "column", "entry"] ["history", "value"] (defScope s_is_stored) := ⟨rfl, rfl, rfl, by decide +kernel, rfl, by decide +kernel, by decide +kernel⟩
def d_is_stored : He.DefD := ⟨("is_stored", none), "is_stored", "is_stored", defArgs s_is_stored, defBody s_is_stored, defScope s_is_stored, [], []⟩
abbrev s_is_entry : Stmt := top 56
theorem sc_is_entry : FnScope ["column", "value"] ["column", "value"] (defScope s_is_entry) := ⟨rfl, rfl, rfl, by decide +kernel, rfl, by decide +kernel, by decide +kernel⟩
def d_is_entry : He.DefD := ⟨("is_entry", none), "is_entry", "is_entry", defArgs s_is_entry, defBody s_is_entry, defScope s_is_entry, [], []⟩
abbrev s_trail : Stmt := top 57
theorem sc_trail : FnScope ["history", "row", "edition", "columns", "kept", "found", "at", "column", "entry"] ["history", "row", "edition"] (defScope s_trail) := ⟨rfl, rfl, rfl, by decide +kernel, rfl, by decide +kernel, by decide +kernel⟩
def d_trail : He.DefD := ⟨("trail", none), "trail", "trail", defArgs s_trail, defBody s_trail, defScope s_trail, [], []⟩
abbrev s_followed : Stmt := top 58
theorem sc_followed : FnScope ["history", "row", "edition", "at", "found"] ["history", "row", "edition"] (defScope s_followed) := ⟨rfl, rfl, rfl, by decide +kernel, rfl, by decide +kernel, by decide +kernel⟩
def d_followed : He.DefD := ⟨("followed", none), "followed", "followed", defArgs s_followed, defBody s_followed, defScope s_followed, [], [("edition", .non)]⟩
abbrev s_barred_at : Stmt := top 59
theorem sc_barred_at : FnScope ["history", "row", "behind"] ["history", "row"] (defScope s_barred_at) := ⟨rfl, rfl, rfl, by decide +kernel, rfl, by decide +kernel, by decide +kernel⟩
def d_barred_at : He.DefD := ⟨("barred_at", none), "barred_at", "barred_at", defArgs s_barred_at, defBody s_barred_at, defScope s_barred_at, [], []⟩
abbrev s_check_both : Stmt := top 61
theorem sc_check_both : FnScope ["one", "other"] ["one", "other"] (defScope s_check_both) := ⟨rfl, rfl, rfl, by decide +kernel, rfl, by decide +kernel, by decide +kernel⟩
def d_check_both : He.DefD := ⟨("check_both", none), "check_both", "check_both", defArgs s_check_both, defBody s_check_both, defScope s_check_both, [], []⟩
abbrev s_is_column_unlike : Stmt := top 62
theorem sc_is_column_unlike : FnScope ["one", "other", "name", "first", "second"] ["one", "other", "name"] (defScope s_is_column_unlike) := ⟨rfl, rfl, rfl, by decide +kernel, rfl, by decide +kernel, by decide +kernel⟩
def d_is_column_unlike : He.DefD := ⟨("is_column_unlike", none), "is_column_unlike", "is_column_unlike", defArgs s_is_column_unlike, defBody s_is_column_unlike, defScope s_is_column_unlike, [], []⟩
abbrev s_is_row_unlike : Stmt := top 63
theorem sc_is_row_unlike : FnScope ["one", "other", "row"] ["one", "other", "row"] (defScope s_is_row_unlike) := ⟨rfl, rfl, rfl, by decide +kernel, rfl, by decide +kernel, by decide +kernel⟩
def d_is_row_unlike : He.DefD := ⟨("is_row_unlike", none), "is_row_unlike", "is_row_unlike", defArgs s_is_row_unlike, defBody s_is_row_unlike, defScope s_is_row_unlike, [], []⟩
abbrev s_is_read_unlike : Stmt := top 64
theorem sc_is_read_unlike : FnScope ["one", "other", "row", "name", "first", "second"] ["one", "other", "row", "name"] (defScope s_is_read_unlike) := ⟨rfl, rfl, rfl, by decide +kernel, rfl, by decide +kernel, by decide +kernel⟩
def d_is_read_unlike : He.DefD := ⟨("is_read_unlike", none), "is_read_unlike", "is_read_unlike", defArgs s_is_read_unlike, defBody s_is_read_unlike, defScope s_is_read_unlike, [], []⟩
abbrev s_is_first_row : Stmt := top 65
theorem sc_is_first_row : FnScope ["history", "value"] ["history", "value"] (defScope s_is_first_row) := ⟨rfl, rfl, rfl, by decide +kernel, rfl, by decide +kernel, by decide +kernel⟩
def d_is_first_row : He.DefD := ⟨("is_first_row", none), "is_first_row", "is_first_row", defArgs s_is_first_row, defBody s_is_first_row, defScope s_is_first_row, [], []⟩
abbrev s_is_unlike : Stmt := top 66
theorem sc_is_unlike : FnScope ["one", "other", "value"] ["one", "other", "value"] (defScope s_is_unlike) := ⟨rfl, rfl, rfl, by decide +kernel, rfl, by decide +kernel, by decide +kernel⟩
def d_is_unlike : He.DefD := ⟨("is_unlike", none), "is_unlike", "is_unlike", defArgs s_is_unlike, defBody s_is_unlike, defScope s_is_unlike, [], []⟩
abbrev s__law_pool : Stmt := top 68
theorem sc__law_pool : FnScope ["_law_script", "_law_k", "_law_cell", "_law_size", "_law_mixed"] ["_law_script", "_law_k"] (defScope s__law_pool) := ⟨rfl, rfl, rfl, by decide +kernel, rfl, by decide +kernel, by decide +kernel⟩
def d__law_pool : He.DefD := ⟨("_law_pool", none), "_law_pool", "_law_pool", defArgs s__law_pool, defBody s__law_pool, defScope s__law_pool, [], []⟩
abbrev s__law_draw : Stmt := top 69
theorem sc__law_draw : FnScope ["_law_pool_here", "_law_many", "_law_found"] ["_law_pool_here", "_law_many"] (defScope s__law_draw) := ⟨rfl, rfl, rfl, by decide +kernel, rfl, by decide +kernel, by decide +kernel⟩
def d__law_draw : He.DefD := ⟨("_law_draw", none), "_law_draw", "_law_draw", defArgs s__law_draw, defBody s__law_draw, defScope s__law_draw, [], []⟩
abbrev s__law_pick : Stmt := top 70
theorem sc__law_pick : FnScope ["_law_pool_here", "_law_row"] ["_law_pool_here", "_law_row"] (defScope s__law_pick) := ⟨rfl, rfl, rfl, by decide +kernel, rfl, by decide +kernel, by decide +kernel⟩
def d__law_pick : He.DefD := ⟨("_law_pick", none), "_law_pick", "_law_pick", defArgs s__law_pick, defBody s__law_pick, defScope s__law_pick, [], []⟩
abbrev s__law_names : Stmt := top 71
theorem sc__law_names : FnScope ["_law_pool_here", "_law_count", "_law_signs", "_law_origin", "_law_step_here", "_law_ends", "_law_head", "_law_tail", "_law_k"] ["_law_pool_here", "_law_count"] (defScope s__law_names) := ⟨rfl, rfl, rfl, by decide +kernel, rfl, by decide +kernel, by decide +kernel⟩
def d__law_names : He.DefD := ⟨("_law_names", none), "_law_names", "_law_names", defArgs s__law_names, defBody s__law_names, defScope s__law_names, [], []⟩
abbrev s__law_columns : Stmt := top 72
theorem sc__law_columns : FnScope ["_law_pool_here", "_law_count_most", "_law_top", "_law_words", "_law_found", "_law_at", "_law_g"] ["_law_pool_here", "_law_count_most", "_law_top"] (defScope s__law_columns) := ⟨rfl, rfl, rfl, by decide +kernel, rfl, by decide +kernel, by decide +kernel⟩
def d__law_columns : He.DefD := ⟨("_law_columns", none), "_law_columns", "_law_columns", defArgs s__law_columns, defBody s__law_columns, defScope s__law_columns, [], []⟩
abbrev s__law_some : Stmt := top 73
theorem sc__law_some : FnScope ["_law_pool_here", "_law_g", "_law_place"] ["_law_pool_here", "_law_g"] (defScope s__law_some) := ⟨rfl, rfl, rfl, by decide +kernel, rfl, by decide +kernel, by decide +kernel⟩
def d__law_some : He.DefD := ⟨("_law_some", none), "_law_some", "_law_some", defArgs s__law_some, defBody s__law_some, defScope s__law_some, [], []⟩
abbrev s__law_fits : Stmt := top 74
theorem sc__law_fits : FnScope ["_law_value", "_law_g"] ["_law_value", "_law_g"] (defScope s__law_fits) := ⟨rfl, rfl, rfl, by decide +kernel, rfl, by decide +kernel, by decide +kernel⟩
def d__law_fits : He.DefD := ⟨("_law_fits", none), "_law_fits", "_law_fits", defArgs s__law_fits, defBody s__law_fits, defScope s__law_fits, [], []⟩
abbrev s__law_column : Stmt := top 75
theorem sc__law_column : FnScope ["_law_cols", "_law_name", "_law_found", "_law_col"] ["_law_cols", "_law_name"] (defScope s__law_column) := ⟨rfl, rfl, rfl, by decide +kernel, rfl, by decide +kernel, by decide +kernel⟩
def d__law_column : He.DefD := ⟨("_law_column", none), "_law_column", "_law_column", defArgs s__law_column, defBody s__law_column, defScope s__law_column, [], []⟩
abbrev s__law_why : Stmt := top 76
theorem sc__law_why : FnScope ["_law_cols", "_law_change_here", "_law_col"] ["_law_cols", "_law_change_here"] (defScope s__law_why) := ⟨rfl, rfl, rfl, by decide +kernel, rfl, by decide +kernel, by decide +kernel⟩
def d__law_why : He.DefD := ⟨("_law_why", none), "_law_why", "_law_why", defArgs s__law_why, defBody s__law_why, defScope s__law_why, [], []⟩
abbrev s__law_narrow : Stmt := top 77
theorem sc__law_narrow : FnScope ["_law_value", "_law_g", "_law_way"] ["_law_value", "_law_g", "_law_way"] (defScope s__law_narrow) := ⟨rfl, rfl, rfl, by decide +kernel, rfl, by decide +kernel, by decide +kernel⟩
def d__law_narrow : He.DefD := ⟨("_law_narrow", none), "_law_narrow", "_law_narrow", defArgs s__law_narrow, defBody s__law_narrow, defScope s__law_narrow, [], []⟩
abbrev s__law_col_after : Stmt := top 78
theorem sc__law_col_after : FnScope ["_law_col", "_law_change_here", "_law_found"] ["_law_col", "_law_change_here"] (defScope s__law_col_after) := ⟨rfl, rfl, rfl, by decide +kernel, rfl, by decide +kernel, by decide +kernel⟩
def d__law_col_after : He.DefD := ⟨("_law_col_after", none), "_law_col_after", "_law_col_after", defArgs s__law_col_after, defBody s__law_col_after, defScope s__law_col_after, [], []⟩
abbrev s__law_sheet_after : Stmt := top 79
theorem sc__law_sheet_after : FnScope ["_law_cols", "_law_change_here", "_law_count", "_law_found", "_law_col"] ["_law_cols", "_law_change_here", "_law_count"] (defScope s__law_sheet_after) := ⟨rfl, rfl, rfl, by decide +kernel, rfl, by decide +kernel, by decide +kernel⟩
def d__law_sheet_after : He.DefD := ⟨("_law_sheet_after", none), "_law_sheet_after", "_law_sheet_after", defArgs s__law_sheet_after, defBody s__law_sheet_after, defScope s__law_sheet_after, [], []⟩
abbrev s__law_change : Stmt := top 80
theorem sc__law_change : FnScope ["_law_pool_here", "_law_cols", "_law_words", "_law_top", "_law_kind", "_law_col", "_law_g", "_law_free", "_law_way", "_law_word"] ["_law_pool_here", "_law_cols", "_law_words", "_law_top"] (defScope s__law_change) := ⟨rfl, rfl, rfl, by decide +kernel, rfl, by decide +kernel, by decide +kernel⟩
def d__law_change : He.DefD := ⟨("_law_change", none), "_law_change", "_law_change", defArgs s__law_change, defBody s__law_change, defScope s__law_change, [], []⟩
abbrev s__law_history : Stmt := top 81
theorem sc__law_history : FnScope ["_law_pool_here", "_law_count_most", "_law_top", "_law_many", "_law_cols", "_law_words", "_law_h", "_law_turn"] ["_law_pool_here", "_law_count_most", "_law_top", "_law_many"] (defScope s__law_history) := ⟨rfl, rfl, rfl, by decide +kernel, rfl, by decide +kernel, by decide +kernel⟩
def d__law_history : He.DefD := ⟨("_law_history", none), "_law_history", "_law_history", defArgs s__law_history, defBody s__law_history, defScope s__law_history, [], []⟩
abbrev s__law_longer : Stmt := top 82
theorem sc__law_longer : FnScope ["_law_h", "_law_change_here", "_law_found"] ["_law_h", "_law_change_here"] (defScope s__law_longer) := ⟨rfl, rfl, rfl, by decide +kernel, rfl, by decide +kernel, by decide +kernel⟩
def d__law_longer : He.DefD := ⟨("_law_longer", none), "_law_longer", "_law_longer", defArgs s__law_longer, defBody s__law_longer, defScope s__law_longer, [], []⟩
abbrev s__law_made_column : Stmt := top 83
theorem sc__law_made_column : FnScope ["_law_col"] ["_law_col"] (defScope s__law_made_column) := ⟨rfl, rfl, rfl, by decide +kernel, rfl, by decide +kernel, by decide +kernel⟩
def d__law_made_column : He.DefD := ⟨("_law_made_column", none), "_law_made_column", "_law_made_column", defArgs s__law_made_column, defBody s__law_made_column, defScope s__law_made_column, [], []⟩
abbrev s__law_made : Stmt := top 84
theorem sc__law_made : FnScope ["_law_h", "_law_col"] ["_law_h"] (defScope s__law_made) := ⟨rfl, rfl, rfl, by decide +kernel, rfl, by decide +kernel, by decide +kernel⟩
def d__law_made : He.DefD := ⟨("_law_made", none), "_law_made", "_law_made", defArgs s__law_made, defBody s__law_made, defScope s__law_made, [], []⟩
abbrev s__law_step : Stmt := top 85
theorem sc__law_step : FnScope ["_law_cols", "_law_row", "_law_change_here", "_law_found", "_law_col", "_law_value", "_law_name"] ["_law_cols", "_law_row", "_law_change_here"] (defScope s__law_step) := ⟨rfl, rfl, rfl, by decide +kernel, rfl, by decide +kernel, by decide +kernel⟩
def d__law_step : He.DefD := ⟨("_law_step", none), "_law_step", "_law_step", defArgs s__law_step, defBody s__law_step, defScope s__law_step, [], []⟩
abbrev s__law_followed : Stmt := top 86
theorem sc__law_followed : FnScope ["_law_h", "_law_row", "_law_edition", "_law_now", "_law_known", "_law_col", "_law_at"] ["_law_h", "_law_row", "_law_edition"] (defScope s__law_followed) := ⟨rfl, rfl, rfl, by decide +kernel, rfl, by decide +kernel, by decide +kernel⟩
def d__law_followed : He.DefD := ⟨("_law_followed", none), "_law_followed", "_law_followed", defArgs s__law_followed, defBody s__law_followed, defScope s__law_followed, [], []⟩
abbrev s__law_stored : Stmt := top 87
theorem sc__law_stored : FnScope ["_law_h", "_law_edition", "_law_told", "_law_found", "_law_col", "_law_n"] ["_law_h", "_law_edition", "_law_told"] (defScope s__law_stored) := ⟨rfl, rfl, rfl, by decide +kernel, rfl, by decide +kernel, by decide +kernel⟩
def d__law_stored : He.DefD := ⟨("_law_stored", none), "_law_stored", "_law_stored", defArgs s__law_stored, defBody s__law_stored, defScope s__law_stored, [], []⟩
abbrev s__law_all_rows : Stmt := top 88
theorem sc__law_all_rows : FnScope ["_law_h", "_law_edition", "_law_found", "_law_col", "_law_later", "_law_told", "_law_value", "_law_one"] ["_law_h", "_law_edition"] (defScope s__law_all_rows) := ⟨rfl, rfl, rfl, by decide +kernel, rfl, by decide +kernel, by decide +kernel⟩
def d__law_all_rows : He.DefD := ⟨("_law_all_rows", none), "_law_all_rows", "_law_all_rows", defArgs s__law_all_rows, defBody s__law_all_rows, defScope s__law_all_rows, [], []⟩
abbrev s__law_piece : Stmt := top 89
theorem sc__law_piece : FnScope ["_law_cols", "_law_changes", "_law_first", "_law_at", "_law_one", "_law_h", "_law_change_here"] ["_law_cols", "_law_changes"] (defScope s__law_piece) := ⟨rfl, rfl, rfl, by decide +kernel, rfl, by decide +kernel, by decide +kernel⟩
def d__law_piece : He.DefD := ⟨("_law_piece", none), "_law_piece", "_law_piece", defArgs s__law_piece, defBody s__law_piece, defScope s__law_piece, [], []⟩
abbrev s__law_heads : Stmt := top 90
theorem sc__law_heads : FnScope ["_law_h", "_law_col"] ["_law_h"] (defScope s__law_heads) := ⟨rfl, rfl, rfl, by decide +kernel, rfl, by decide +kernel, by decide +kernel⟩
def d__law_heads : He.DefD := ⟨("_law_heads", none), "_law_heads", "_law_heads", defArgs s__law_heads, defBody s__law_heads, defScope s__law_heads, [], []⟩
abbrev s__law_shows : Stmt := top 91
theorem sc__law_shows : FnScope ["_law_h", "_law_m", "_law_value", "_law_one", "_law_other"] ["_law_h", "_law_m", "_law_value"] (defScope s__law_shows) := ⟨rfl, rfl, rfl, by decide +kernel, rfl, by decide +kernel, by decide +kernel⟩
def d__law_shows : He.DefD := ⟨("_law_shows", none), "_law_shows", "_law_shows", defArgs s__law_shows, defBody s__law_shows, defScope s__law_shows, [], []⟩
abbrev s__law_near : Stmt := top 92
theorem sc__law_near : FnScope ["_law_pool_here", "_law_h", "_law_cols", "_law_changes", "_law_way", "_law_at", "_law_found", "_law_col", "_law_some_here"] ["_law_pool_here", "_law_h"] (defScope s__law_near) := ⟨rfl, rfl, rfl, by decide +kernel, rfl, by decide +kernel, by decide +kernel⟩
def d__law_near : He.DefD := ⟨("_law_near", none), "_law_near", "_law_near", defArgs s__law_near, defBody s__law_near, defScope s__law_near, [], []⟩
abbrev s__law_tuples : Stmt := top 93
theorem sc__law_tuples : FnScope ["_law_h", "_law_m", "_law_names_here", "_law_found", "_law_row", "_law_col", "_law_name"] ["_law_h", "_law_m"] (defScope s__law_tuples) := ⟨rfl, rfl, rfl, by decide +kernel, rfl, by decide +kernel, by decide +kernel⟩
def d__law_tuples : He.DefD := ⟨("_law_tuples", none), "_law_tuples", "_law_tuples", defArgs s__law_tuples, defBody s__law_tuples, defScope s__law_tuples, [], []⟩
abbrev s_law : Stmt := top 94
theorem sc_law : FnScope ["_law_script", "_law_k", "_law_pool_here", "_law_h", "_law_m", "_law_one", "_law_other", "_law_value", "_law_row", "_law_odds", "_law_odd"] ["_law_script"] (defScope s_law) := ⟨rfl, rfl, rfl, by decide +kernel, rfl, by decide +kernel, by decide +kernel⟩
def d_law : He.DefD := ⟨("law", none), "law", "law", defArgs s_law, defBody s_law, defScope s_law, [], []⟩
def fn0 : List He.DefD := [d_is_whole, d_is_list, d_is_word, d_is_name, d_is_greatest, d_is_value, d_is_within, d_is_missing, d_Column___init__, d_Column___eq__, d_Column___contains__, d_Column_changed, d_column_named, d_column_numbered, d_is_change, d_has_parts, d_is_single_part, d_is_way, d_kind_of, d_hindrance, d_add_hindrance, d_columns_behind, d_changed_column, d_changed_value, d_value_above, d_is_edition, d_edition_of, d_numbered_columns, d_columns_of_editions, d_births, d_drops, d_History___init__, d_History___len__, d_History___getitem__, d_History_first_columns, d_History_columns, d_History_column, d_History_numbers, d_History_born, d_History_dropped, d_History_behind, d_is_given, d_changed_row, d_is_stored, d_is_entry, d_trail, d_followed, d_barred_at, d_check_both, d_is_column_unlike, d_is_row_unlike, d_is_read_unlike, d_is_first_row, d_is_unlike, d__law_pool, d__law_draw, d__law_pick, d__law_names, d__law_columns, d__law_some, d__law_fits, d__law_column, d__law_why, d__law_narrow, d__law_col_after, d__law_sheet_after, d__law_change, d__law_history, d__law_longer, d__law_made_column, d__law_made, d__law_step, d__law_followed, d__law_stored, d__law_all_rows, d__law_piece, d__law_heads, d__law_shows, d__law_near, d__law_tuples, d_law]
def fa0 : List He.Fa := [.glo "is_whole", .glo "is_list", .glo "is_word", .glo "is_name", .glo "is_greatest", .glo "is_value", .glo "is_within", .glo "is_missing", .glo "column_named", .glo "column_numbered", .glo "is_change", .glo "has_parts", .glo "is_single_part", .glo "is_way", .glo "kind_of", .glo "hindrance", .glo "add_hindrance", .glo "columns_behind", .glo "changed_column", .glo "changed_value", .glo "value_above", .glo "is_edition", .glo "edition_of", .glo "numbered_columns", .glo "columns_of_editions", .glo "births", .glo "drops", .glo "is_given", .glo "changed_row", .glo "is_stored", .glo "is_entry", .glo "trail", .glo "followed", .glo "barred_at", .glo "check_both", .glo "is_column_unlike", .glo "is_row_unlike", .glo "is_read_unlike", .glo "is_first_row", .glo "is_unlike", .glo "_law_pool", .glo "_law_draw", .glo "_law_pick", .glo "_law_names", .glo "_law_columns", .glo "_law_some", .glo "_law_fits", .glo "_law_column", .glo "_law_why", .glo "_law_narrow", .glo "_law_col_after", .glo "_law_sheet_after", .glo "_law_change", .glo "_law_history", .glo "_law_longer", .glo "_law_made_column", .glo "_law_made", .glo "_law_step", .glo "_law_followed", .glo "_law_stored", .glo "_law_all_rows", .glo "_law_piece", .glo "_law_heads", .glo "_law_shows", .glo "_law_near", .glo "_law_tuples", .glo "law", .glo "Column", .cls "Column", .mkr "Column", .noat "Column" "name", .noat "Column" "greatest", .noat "Column" "default", .noat "Column" "number", .meth "Column" "__eq__", .meth "Column" "__contains__", .meth "Column" "changed", .glo "History", .cls "History", .mkr "History", .noat "History" "_editions", .noat "History" "_changes", .noat "History" "_births", .noat "History" "_drops", .meth "History" "__len__", .meth "History" "__getitem__", .meth "History" "first_columns", .meth "History" "columns", .meth "History" "numbers", .str "MISSING" "missing", .str "LETTERS" "abcdefghijklmnopqrstuvwxyz", .int "LONGEST_NAME" 8, .int "MOST_GREATEST" 99, .glo "PARTS", .glo "WAYS", .int "MOST_COLUMNS" 6, .int "MOST_CHANGES" 40, .free "isinstance", .free "int", .free "bool", .free "list", .free "tuple", .free "str", .free "all", .free "len", .free "enumerate", .free "range", .free "zip", .free "abs", .free "sum", .free "dict", .free "sorted", .free "max", .free "min"]
def fnl : List He.DefD := fn0
def fal : List He.Fa := fa0
def exl (K : PySem.W.Frag) : Bool := [He.tupB K "PARTS" [(.str "name"), (.str "greatest"), (.str "default"), (.str "number")], He.tupB K "WAYS" [(.str "cut"), (.str "none"), (.str "refuse")], insB K "Column", insB K "History", PySem.W.fnIn K (He.ma K (He.ga K "History") "__getitem__")].all id
structure Tx (K : PySem.W.Frag) (mg : Str → Option Value) : Prop where
  c : He.SaysD fal fnl K
  e : exl K = true
  h : ∃ h : Heap, K.In h ∧ h.Ns mainGlobals mg
section
variable {K : PySem.W.Frag} {mg : Str → Option Value}
theorem mg_is_whole (T : Tx K mg) : mg "is_whole" = some (.ref (He.ga K "is_whole")) := by
  obtain ⟨h, X, G⟩ := T.h
  exact He.glo_ok X G (T.c.fact 0 rfl)
theorem mg_is_list (T : Tx K mg) : mg "is_list" = some (.ref (He.ga K "is_list")) := by
  obtain ⟨h, X, G⟩ := T.h
  exact He.glo_ok X G (T.c.fact 1 rfl)
theorem mg_is_word (T : Tx K mg) : mg "is_word" = some (.ref (He.ga K "is_word")) := by
  obtain ⟨h, X, G⟩ := T.h
  exact He.glo_ok X G (T.c.fact 2 rfl)
theorem mg_is_name (T : Tx K mg) : mg "is_name" = some (.ref (He.ga K "is_name")) := by
  obtain ⟨h, X, G⟩ := T.h
  exact He.glo_ok X G (T.c.fact 3 rfl)
theorem mg_is_greatest (T : Tx K mg) : mg "is_greatest" = some (.ref (He.ga K "is_greatest")) := by
  obtain ⟨h, X, G⟩ := T.h
  exact He.glo_ok X G (T.c.fact 4 rfl)
theorem mg_is_value (T : Tx K mg) : mg "is_value" = some (.ref (He.ga K "is_value")) := by
  obtain ⟨h, X, G⟩ := T.h
  exact He.glo_ok X G (T.c.fact 5 rfl)
theorem mg_is_within (T : Tx K mg) : mg "is_within" = some (.ref (He.ga K "is_within")) := by
  obtain ⟨h, X, G⟩ := T.h
  exact He.glo_ok X G (T.c.fact 6 rfl)
theorem mg_is_missing (T : Tx K mg) : mg "is_missing" = some (.ref (He.ga K "is_missing")) := by
  obtain ⟨h, X, G⟩ := T.h
  exact He.glo_ok X G (T.c.fact 7 rfl)
theorem mg_column_named (T : Tx K mg) : mg "column_named" = some (.ref (He.ga K "column_named")) := by
  obtain ⟨h, X, G⟩ := T.h
  exact He.glo_ok X G (T.c.fact 8 rfl)
theorem mg_column_numbered (T : Tx K mg) : mg "column_numbered" = some (.ref (He.ga K "column_numbered")) := by
  obtain ⟨h, X, G⟩ := T.h
  exact He.glo_ok X G (T.c.fact 9 rfl)
theorem mg_is_change (T : Tx K mg) : mg "is_change" = some (.ref (He.ga K "is_change")) := by
  obtain ⟨h, X, G⟩ := T.h
  exact He.glo_ok X G (T.c.fact 10 rfl)
theorem mg_has_parts (T : Tx K mg) : mg "has_parts" = some (.ref (He.ga K "has_parts")) := by
  obtain ⟨h, X, G⟩ := T.h
  exact He.glo_ok X G (T.c.fact 11 rfl)
theorem mg_is_single_part (T : Tx K mg) : mg "is_single_part" = some (.ref (He.ga K "is_single_part")) := by
  obtain ⟨h, X, G⟩ := T.h
  exact He.glo_ok X G (T.c.fact 12 rfl)
theorem mg_is_way (T : Tx K mg) : mg "is_way" = some (.ref (He.ga K "is_way")) := by
  obtain ⟨h, X, G⟩ := T.h
  exact He.glo_ok X G (T.c.fact 13 rfl)
theorem mg_kind_of (T : Tx K mg) : mg "kind_of" = some (.ref (He.ga K "kind_of")) := by
  obtain ⟨h, X, G⟩ := T.h
  exact He.glo_ok X G (T.c.fact 14 rfl)
theorem mg_hindrance (T : Tx K mg) : mg "hindrance" = some (.ref (He.ga K "hindrance")) := by
  obtain ⟨h, X, G⟩ := T.h
  exact He.glo_ok X G (T.c.fact 15 rfl)
theorem mg_add_hindrance (T : Tx K mg) : mg "add_hindrance" = some (.ref (He.ga K "add_hindrance")) := by
  obtain ⟨h, X, G⟩ := T.h
  exact He.glo_ok X G (T.c.fact 16 rfl)
theorem mg_columns_behind (T : Tx K mg) : mg "columns_behind" = some (.ref (He.ga K "columns_behind")) := by
  obtain ⟨h, X, G⟩ := T.h
  exact He.glo_ok X G (T.c.fact 17 rfl)
theorem mg_changed_column (T : Tx K mg) : mg "changed_column" = some (.ref (He.ga K "changed_column")) := by
  obtain ⟨h, X, G⟩ := T.h
  exact He.glo_ok X G (T.c.fact 18 rfl)
theorem mg_changed_value (T : Tx K mg) : mg "changed_value" = some (.ref (He.ga K "changed_value")) := by
  obtain ⟨h, X, G⟩ := T.h
  exact He.glo_ok X G (T.c.fact 19 rfl)
theorem mg_value_above (T : Tx K mg) : mg "value_above" = some (.ref (He.ga K "value_above")) := by
  obtain ⟨h, X, G⟩ := T.h
  exact He.glo_ok X G (T.c.fact 20 rfl)
theorem mg_is_edition (T : Tx K mg) : mg "is_edition" = some (.ref (He.ga K "is_edition")) := by
  obtain ⟨h, X, G⟩ := T.h
  exact He.glo_ok X G (T.c.fact 21 rfl)
theorem mg_edition_of (T : Tx K mg) : mg "edition_of" = some (.ref (He.ga K "edition_of")) := by
  obtain ⟨h, X, G⟩ := T.h
  exact He.glo_ok X G (T.c.fact 22 rfl)
theorem mg_numbered_columns (T : Tx K mg) : mg "numbered_columns" = some (.ref (He.ga K "numbered_columns")) := by
  obtain ⟨h, X, G⟩ := T.h
  exact He.glo_ok X G (T.c.fact 23 rfl)
theorem mg_columns_of_editions (T : Tx K mg) : mg "columns_of_editions" = some (.ref (He.ga K "columns_of_editions")) := by
  obtain ⟨h, X, G⟩ := T.h
  exact He.glo_ok X G (T.c.fact 24 rfl)
theorem mg_births (T : Tx K mg) : mg "births" = some (.ref (He.ga K "births")) := by
  obtain ⟨h, X, G⟩ := T.h
  exact He.glo_ok X G (T.c.fact 25 rfl)
theorem mg_drops (T : Tx K mg) : mg "drops" = some (.ref (He.ga K "drops")) := by
  obtain ⟨h, X, G⟩ := T.h
  exact He.glo_ok X G (T.c.fact 26 rfl)
theorem mg_is_given (T : Tx K mg) : mg "is_given" = some (.ref (He.ga K "is_given")) := by
  obtain ⟨h, X, G⟩ := T.h
  exact He.glo_ok X G (T.c.fact 27 rfl)
theorem mg_changed_row (T : Tx K mg) : mg "changed_row" = some (.ref (He.ga K "changed_row")) := by
  obtain ⟨h, X, G⟩ := T.h
  exact He.glo_ok X G (T.c.fact 28 rfl)
theorem mg_is_stored (T : Tx K mg) : mg "is_stored" = some (.ref (He.ga K "is_stored")) := by
  obtain ⟨h, X, G⟩ := T.h
  exact He.glo_ok X G (T.c.fact 29 rfl)
theorem mg_is_entry (T : Tx K mg) : mg "is_entry" = some (.ref (He.ga K "is_entry")) := by
  obtain ⟨h, X, G⟩ := T.h
  exact He.glo_ok X G (T.c.fact 30 rfl)
theorem mg_trail (T : Tx K mg) : mg "trail" = some (.ref (He.ga K "trail")) := by
  obtain ⟨h, X, G⟩ := T.h
  exact He.glo_ok X G (T.c.fact 31 rfl)
theorem mg_followed (T : Tx K mg) : mg "followed" = some (.ref (He.ga K "followed")) := by
  obtain ⟨h, X, G⟩ := T.h
  exact He.glo_ok X G (T.c.fact 32 rfl)
theorem mg_barred_at (T : Tx K mg) : mg "barred_at" = some (.ref (He.ga K "barred_at")) := by
  obtain ⟨h, X, G⟩ := T.h
  exact He.glo_ok X G (T.c.fact 33 rfl)
theorem mg_check_both (T : Tx K mg) : mg "check_both" = some (.ref (He.ga K "check_both")) := by
  obtain ⟨h, X, G⟩ := T.h
  exact He.glo_ok X G (T.c.fact 34 rfl)
theorem mg_is_column_unlike (T : Tx K mg) : mg "is_column_unlike" = some (.ref (He.ga K "is_column_unlike")) := by
  obtain ⟨h, X, G⟩ := T.h
  exact He.glo_ok X G (T.c.fact 35 rfl)
theorem mg_is_row_unlike (T : Tx K mg) : mg "is_row_unlike" = some (.ref (He.ga K "is_row_unlike")) := by
  obtain ⟨h, X, G⟩ := T.h
  exact He.glo_ok X G (T.c.fact 36 rfl)
theorem mg_is_read_unlike (T : Tx K mg) : mg "is_read_unlike" = some (.ref (He.ga K "is_read_unlike")) := by
  obtain ⟨h, X, G⟩ := T.h
  exact He.glo_ok X G (T.c.fact 37 rfl)
theorem mg_is_first_row (T : Tx K mg) : mg "is_first_row" = some (.ref (He.ga K "is_first_row")) := by
  obtain ⟨h, X, G⟩ := T.h
  exact He.glo_ok X G (T.c.fact 38 rfl)
theorem mg_is_unlike (T : Tx K mg) : mg "is_unlike" = some (.ref (He.ga K "is_unlike")) := by
  obtain ⟨h, X, G⟩ := T.h
  exact He.glo_ok X G (T.c.fact 39 rfl)
theorem mg__law_pool (T : Tx K mg) : mg "_law_pool" = some (.ref (He.ga K "_law_pool")) := by
  obtain ⟨h, X, G⟩ := T.h
  exact He.glo_ok X G (T.c.fact 40 rfl)
theorem mg__law_draw (T : Tx K mg) : mg "_law_draw" = some (.ref (He.ga K "_law_draw")) := by
  obtain ⟨h, X, G⟩ := T.h
  exact He.glo_ok X G (T.c.fact 41 rfl)
theorem mg__law_pick (T : Tx K mg) : mg "_law_pick" = some (.ref (He.ga K "_law_pick")) := by
  obtain ⟨h, X, G⟩ := T.h
  exact He.glo_ok X G (T.c.fact 42 rfl)
theorem mg__law_names (T : Tx K mg) : mg "_law_names" = some (.ref (He.ga K "_law_names")) := by
  obtain ⟨h, X, G⟩ := T.h
  exact He.glo_ok X G (T.c.fact 43 rfl)
theorem mg__law_columns (T : Tx K mg) : mg "_law_columns" = some (.ref (He.ga K "_law_columns")) := by
  obtain ⟨h, X, G⟩ := T.h
  exact He.glo_ok X G (T.c.fact 44 rfl)
theorem mg__law_some (T : Tx K mg) : mg "_law_some" = some (.ref (He.ga K "_law_some")) := by
  obtain ⟨h, X, G⟩ := T.h
  exact He.glo_ok X G (T.c.fact 45 rfl)
theorem mg__law_fits (T : Tx K mg) : mg "_law_fits" = some (.ref (He.ga K "_law_fits")) := by
  obtain ⟨h, X, G⟩ := T.h
  exact He.glo_ok X G (T.c.fact 46 rfl)
theorem mg__law_column (T : Tx K mg) : mg "_law_column" = some (.ref (He.ga K "_law_column")) := by
  obtain ⟨h, X, G⟩ := T.h
  exact He.glo_ok X G (T.c.fact 47 rfl)
theorem mg__law_why (T : Tx K mg) : mg "_law_why" = some (.ref (He.ga K "_law_why")) := by
  obtain ⟨h, X, G⟩ := T.h
  exact He.glo_ok X G (T.c.fact 48 rfl)
theorem mg__law_narrow (T : Tx K mg) : mg "_law_narrow" = some (.ref (He.ga K "_law_narrow")) := by
  obtain ⟨h, X, G⟩ := T.h
  exact He.glo_ok X G (T.c.fact 49 rfl)
theorem mg__law_col_after (T : Tx K mg) : mg "_law_col_after" = some (.ref (He.ga K "_law_col_after")) := by
  obtain ⟨h, X, G⟩ := T.h
  exact He.glo_ok X G (T.c.fact 50 rfl)
theorem mg__law_sheet_after (T : Tx K mg) : mg "_law_sheet_after" = some (.ref (He.ga K "_law_sheet_after")) := by
  obtain ⟨h, X, G⟩ := T.h
  exact He.glo_ok X G (T.c.fact 51 rfl)
theorem mg__law_change (T : Tx K mg) : mg "_law_change" = some (.ref (He.ga K "_law_change")) := by
  obtain ⟨h, X, G⟩ := T.h
  exact He.glo_ok X G (T.c.fact 52 rfl)
theorem mg__law_history (T : Tx K mg) : mg "_law_history" = some (.ref (He.ga K "_law_history")) := by
  obtain ⟨h, X, G⟩ := T.h
  exact He.glo_ok X G (T.c.fact 53 rfl)
theorem mg__law_longer (T : Tx K mg) : mg "_law_longer" = some (.ref (He.ga K "_law_longer")) := by
  obtain ⟨h, X, G⟩ := T.h
  exact He.glo_ok X G (T.c.fact 54 rfl)
theorem mg__law_made_column (T : Tx K mg) : mg "_law_made_column" = some (.ref (He.ga K "_law_made_column")) := by
  obtain ⟨h, X, G⟩ := T.h
  exact He.glo_ok X G (T.c.fact 55 rfl)
theorem mg__law_made (T : Tx K mg) : mg "_law_made" = some (.ref (He.ga K "_law_made")) := by
  obtain ⟨h, X, G⟩ := T.h
  exact He.glo_ok X G (T.c.fact 56 rfl)
theorem mg__law_step (T : Tx K mg) : mg "_law_step" = some (.ref (He.ga K "_law_step")) := by
  obtain ⟨h, X, G⟩ := T.h
  exact He.glo_ok X G (T.c.fact 57 rfl)
theorem mg__law_followed (T : Tx K mg) : mg "_law_followed" = some (.ref (He.ga K "_law_followed")) := by
  obtain ⟨h, X, G⟩ := T.h
  exact He.glo_ok X G (T.c.fact 58 rfl)
theorem mg__law_stored (T : Tx K mg) : mg "_law_stored" = some (.ref (He.ga K "_law_stored")) := by
  obtain ⟨h, X, G⟩ := T.h
  exact He.glo_ok X G (T.c.fact 59 rfl)
theorem mg__law_all_rows (T : Tx K mg) : mg "_law_all_rows" = some (.ref (He.ga K "_law_all_rows")) := by
  obtain ⟨h, X, G⟩ := T.h
  exact He.glo_ok X G (T.c.fact 60 rfl)
theorem mg__law_piece (T : Tx K mg) : mg "_law_piece" = some (.ref (He.ga K "_law_piece")) := by
  obtain ⟨h, X, G⟩ := T.h
  exact He.glo_ok X G (T.c.fact 61 rfl)
theorem mg__law_heads (T : Tx K mg) : mg "_law_heads" = some (.ref (He.ga K "_law_heads")) := by
  obtain ⟨h, X, G⟩ := T.h
  exact He.glo_ok X G (T.c.fact 62 rfl)
theorem mg__law_shows (T : Tx K mg) : mg "_law_shows" = some (.ref (He.ga K "_law_shows")) := by
  obtain ⟨h, X, G⟩ := T.h
  exact He.glo_ok X G (T.c.fact 63 rfl)
theorem mg__law_near (T : Tx K mg) : mg "_law_near" = some (.ref (He.ga K "_law_near")) := by
  obtain ⟨h, X, G⟩ := T.h
  exact He.glo_ok X G (T.c.fact 64 rfl)
theorem mg__law_tuples (T : Tx K mg) : mg "_law_tuples" = some (.ref (He.ga K "_law_tuples")) := by
  obtain ⟨h, X, G⟩ := T.h
  exact He.glo_ok X G (T.c.fact 65 rfl)
theorem mg_law (T : Tx K mg) : mg "law" = some (.ref (He.ga K "law")) := by
  obtain ⟨h, X, G⟩ := T.h
  exact He.glo_ok X G (T.c.fact 66 rfl)
theorem mg_Column (T : Tx K mg) : mg "Column" = some (.ref (He.ga K "Column")) := by
  obtain ⟨h, X, G⟩ := T.h
  exact He.glo_ok X G (T.c.fact 67 rfl)
theorem cl_Column (T : Tx K mg) : Cls K (He.ga K "Column") := He.cls_ok (T.c.fact 68 rfl)
theorem mk_Column (T : Tx K mg) : Mk K (He.ga K "Column") (He.ma K (He.ga K "Column") "__init__") := He.mkr_ok (T.c.fact 69 rfl)
theorem na_Column_name (T : Tx K mg) : NoAttr K (He.ga K "Column") "name" := He.noat_ok (T.c.fact 70 rfl)
theorem na_Column_greatest (T : Tx K mg) : NoAttr K (He.ga K "Column") "greatest" := He.noat_ok (T.c.fact 71 rfl)
theorem na_Column_default (T : Tx K mg) : NoAttr K (He.ga K "Column") "default" := He.noat_ok (T.c.fact 72 rfl)
theorem na_Column_number (T : Tx K mg) : NoAttr K (He.ga K "Column") "number" := He.noat_ok (T.c.fact 73 rfl)
theorem me_Column___eq__ (T : Tx K mg) : Meth K (He.ga K "Column") "__eq__" (He.ma K (He.ga K "Column") "__eq__") := He.meth_ok (T.c.fact 74 rfl)
theorem me_Column___contains__ (T : Tx K mg) : Meth K (He.ga K "Column") "__contains__" (He.ma K (He.ga K "Column") "__contains__") := He.meth_ok (T.c.fact 75 rfl)
theorem me_Column_changed (T : Tx K mg) : Meth K (He.ga K "Column") "changed" (He.ma K (He.ga K "Column") "changed") := He.meth_ok (T.c.fact 76 rfl)
theorem mg_History (T : Tx K mg) : mg "History" = some (.ref (He.ga K "History")) := by
  obtain ⟨h, X, G⟩ := T.h
  exact He.glo_ok X G (T.c.fact 77 rfl)
theorem cl_History (T : Tx K mg) : Cls K (He.ga K "History") := He.cls_ok (T.c.fact 78 rfl)
theorem mk_History (T : Tx K mg) : Mk K (He.ga K "History") (He.ma K (He.ga K "History") "__init__") := He.mkr_ok (T.c.fact 79 rfl)
theorem na_History__editions (T : Tx K mg) : NoAttr K (He.ga K "History") "_editions" := He.noat_ok (T.c.fact 80 rfl)
theorem na_History__changes (T : Tx K mg) : NoAttr K (He.ga K "History") "_changes" := He.noat_ok (T.c.fact 81 rfl)
theorem na_History__births (T : Tx K mg) : NoAttr K (He.ga K "History") "_births" := He.noat_ok (T.c.fact 82 rfl)
theorem na_History__drops (T : Tx K mg) : NoAttr K (He.ga K "History") "_drops" := He.noat_ok (T.c.fact 83 rfl)
theorem me_History___len__ (T : Tx K mg) : Meth K (He.ga K "History") "__len__" (He.ma K (He.ga K "History") "__len__") := He.meth_ok (T.c.fact 84 rfl)
theorem me_History___getitem__ (T : Tx K mg) : Meth K (He.ga K "History") "__getitem__" (He.ma K (He.ga K "History") "__getitem__") := He.meth_ok (T.c.fact 85 rfl)
theorem me_History_first_columns (T : Tx K mg) : Meth K (He.ga K "History") "first_columns" (He.ma K (He.ga K "History") "first_columns") := He.meth_ok (T.c.fact 86 rfl)
theorem me_History_columns (T : Tx K mg) : Meth K (He.ga K "History") "columns" (He.ma K (He.ga K "History") "columns") := He.meth_ok (T.c.fact 87 rfl)
theorem me_History_numbers (T : Tx K mg) : Meth K (He.ga K "History") "numbers" (He.ma K (He.ga K "History") "numbers") := He.meth_ok (T.c.fact 88 rfl)
theorem ms_MISSING (T : Tx K mg) : ∃ t, mg "MISSING" = some (.str "missing" t) := by
  obtain ⟨h, X, G⟩ := T.h
  exact He.str_ok X G (T.c.fact 89 rfl)
theorem ms_LETTERS (T : Tx K mg) : ∃ t, mg "LETTERS" = some (.str "abcdefghijklmnopqrstuvwxyz" t) := by
  obtain ⟨h, X, G⟩ := T.h
  exact He.str_ok X G (T.c.fact 90 rfl)
theorem mi_LONGEST_NAME (T : Tx K mg) : ∃ t, mg "LONGEST_NAME" = some (.int 8 t) := by
  obtain ⟨h, X, G⟩ := T.h
  exact He.int_ok X G (T.c.fact 91 rfl)
theorem mi_MOST_GREATEST (T : Tx K mg) : ∃ t, mg "MOST_GREATEST" = some (.int 99 t) := by
  obtain ⟨h, X, G⟩ := T.h
  exact He.int_ok X G (T.c.fact 92 rfl)
theorem mg_PARTS (T : Tx K mg) : mg "PARTS" = some (.ref (He.ga K "PARTS")) := by
  obtain ⟨h, X, G⟩ := T.h
  exact He.glo_ok X G (T.c.fact 93 rfl)
theorem mg_WAYS (T : Tx K mg) : mg "WAYS" = some (.ref (He.ga K "WAYS")) := by
  obtain ⟨h, X, G⟩ := T.h
  exact He.glo_ok X G (T.c.fact 94 rfl)
theorem mi_MOST_COLUMNS (T : Tx K mg) : ∃ t, mg "MOST_COLUMNS" = some (.int 6 t) := by
  obtain ⟨h, X, G⟩ := T.h
  exact He.int_ok X G (T.c.fact 95 rfl)
theorem mi_MOST_CHANGES (T : Tx K mg) : ∃ t, mg "MOST_CHANGES" = some (.int 40 t) := by
  obtain ⟨h, X, G⟩ := T.h
  exact He.int_ok X G (T.c.fact 96 rfl)
theorem fr_isinstance (T : Tx K mg) : mg "isinstance" = none := by
  obtain ⟨h, X, G⟩ := T.h
  exact He.free_ok X G (T.c.fact 97 rfl)
theorem fr_int (T : Tx K mg) : mg "int" = none := by
  obtain ⟨h, X, G⟩ := T.h
  exact He.free_ok X G (T.c.fact 98 rfl)
theorem fr_bool (T : Tx K mg) : mg "bool" = none := by
  obtain ⟨h, X, G⟩ := T.h
  exact He.free_ok X G (T.c.fact 99 rfl)
theorem fr_list (T : Tx K mg) : mg "list" = none := by
  obtain ⟨h, X, G⟩ := T.h
  exact He.free_ok X G (T.c.fact 100 rfl)
theorem fr_tuple (T : Tx K mg) : mg "tuple" = none := by
  obtain ⟨h, X, G⟩ := T.h
  exact He.free_ok X G (T.c.fact 101 rfl)
theorem fr_str (T : Tx K mg) : mg "str" = none := by
  obtain ⟨h, X, G⟩ := T.h
  exact He.free_ok X G (T.c.fact 102 rfl)
theorem fr_all (T : Tx K mg) : mg "all" = none := by
  obtain ⟨h, X, G⟩ := T.h
  exact He.free_ok X G (T.c.fact 103 rfl)
theorem fr_len (T : Tx K mg) : mg "len" = none := by
  obtain ⟨h, X, G⟩ := T.h
  exact He.free_ok X G (T.c.fact 104 rfl)
theorem fr_enumerate (T : Tx K mg) : mg "enumerate" = none := by
  obtain ⟨h, X, G⟩ := T.h
  exact He.free_ok X G (T.c.fact 105 rfl)
theorem fr_range (T : Tx K mg) : mg "range" = none := by
  obtain ⟨h, X, G⟩ := T.h
  exact He.free_ok X G (T.c.fact 106 rfl)
theorem fr_zip (T : Tx K mg) : mg "zip" = none := by
  obtain ⟨h, X, G⟩ := T.h
  exact He.free_ok X G (T.c.fact 107 rfl)
theorem fr_abs (T : Tx K mg) : mg "abs" = none := by
  obtain ⟨h, X, G⟩ := T.h
  exact He.free_ok X G (T.c.fact 108 rfl)
theorem fr_sum (T : Tx K mg) : mg "sum" = none := by
  obtain ⟨h, X, G⟩ := T.h
  exact He.free_ok X G (T.c.fact 109 rfl)
theorem fr_dict (T : Tx K mg) : mg "dict" = none := by
  obtain ⟨h, X, G⟩ := T.h
  exact He.free_ok X G (T.c.fact 110 rfl)
theorem fr_sorted (T : Tx K mg) : mg "sorted" = none := by
  obtain ⟨h, X, G⟩ := T.h
  exact He.free_ok X G (T.c.fact 111 rfl)
theorem fr_max (T : Tx K mg) : mg "max" = none := by
  obtain ⟨h, X, G⟩ := T.h
  exact He.free_ok X G (T.c.fact 112 rfl)
theorem fr_min (T : Tx K mg) : mg "min" = none := by
  obtain ⟨h, X, G⟩ := T.h
  exact He.free_ok X G (T.c.fact 113 rfl)
theorem fd_is_whole (T : Tx K mg) : ∃ fd, FunD K "is_whole" "is_whole" (defArgs s_is_whole) (defBody s_is_whole) (defScope s_is_whole) (d_is_whole.dvs K) (d_is_whole.kws K) (He.ga K "is_whole") fd := T.c.def_ 0 (d := d_is_whole) rfl
theorem fd_is_list (T : Tx K mg) : ∃ fd, FunD K "is_list" "is_list" (defArgs s_is_list) (defBody s_is_list) (defScope s_is_list) (d_is_list.dvs K) (d_is_list.kws K) (He.ga K "is_list") fd := T.c.def_ 1 (d := d_is_list) rfl
theorem fd_is_word (T : Tx K mg) : ∃ fd, FunD K "is_word" "is_word" (defArgs s_is_word) (defBody s_is_word) (defScope s_is_word) (d_is_word.dvs K) (d_is_word.kws K) (He.ga K "is_word") fd := T.c.def_ 2 (d := d_is_word) rfl
theorem fd_is_name (T : Tx K mg) : ∃ fd, FunD K "is_name" "is_name" (defArgs s_is_name) (defBody s_is_name) (defScope s_is_name) (d_is_name.dvs K) (d_is_name.kws K) (He.ga K "is_name") fd := T.c.def_ 3 (d := d_is_name) rfl
theorem fd_is_greatest (T : Tx K mg) : ∃ fd, FunD K "is_greatest" "is_greatest" (defArgs s_is_greatest) (defBody s_is_greatest) (defScope s_is_greatest) (d_is_greatest.dvs K) (d_is_greatest.kws K) (He.ga K "is_greatest") fd := T.c.def_ 4 (d := d_is_greatest) rfl
theorem fd_is_value (T : Tx K mg) : ∃ fd, FunD K "is_value" "is_value" (defArgs s_is_value) (defBody s_is_value) (defScope s_is_value) (d_is_value.dvs K) (d_is_value.kws K) (He.ga K "is_value") fd := T.c.def_ 5 (d := d_is_value) rfl
theorem fd_is_within (T : Tx K mg) : ∃ fd, FunD K "is_within" "is_within" (defArgs s_is_within) (defBody s_is_within) (defScope s_is_within) (d_is_within.dvs K) (d_is_within.kws K) (He.ga K "is_within") fd := T.c.def_ 6 (d := d_is_within) rfl
theorem fd_is_missing (T : Tx K mg) : ∃ fd, FunD K "is_missing" "is_missing" (defArgs s_is_missing) (defBody s_is_missing) (defScope s_is_missing) (d_is_missing.dvs K) (d_is_missing.kws K) (He.ga K "is_missing") fd := T.c.def_ 7 (d := d_is_missing) rfl
theorem fd_Column___init__ (T : Tx K mg) : ∃ fd, FunD K "__init__" "Column.__init__" (defArgs s_Column___init__) (defBody s_Column___init__) (defScope s_Column___init__) (d_Column___init__.dvs K) (d_Column___init__.kws K) (He.ma K (He.ga K "Column") "__init__") fd := T.c.def_ 8 (d := d_Column___init__) rfl
theorem fd_Column___eq__ (T : Tx K mg) : ∃ fd, FunD K "__eq__" "Column.__eq__" (defArgs s_Column___eq__) (defBody s_Column___eq__) (defScope s_Column___eq__) (d_Column___eq__.dvs K) (d_Column___eq__.kws K) (He.ma K (He.ga K "Column") "__eq__") fd := T.c.def_ 9 (d := d_Column___eq__) rfl
theorem fd_Column___contains__ (T : Tx K mg) : ∃ fd, FunD K "__contains__" "Column.__contains__" (defArgs s_Column___contains__) (defBody s_Column___contains__) (defScope s_Column___contains__) (d_Column___contains__.dvs K) (d_Column___contains__.kws K) (He.ma K (He.ga K "Column") "__contains__") fd := T.c.def_ 10 (d := d_Column___contains__) rfl
theorem fd_Column_changed (T : Tx K mg) : ∃ fd, FunD K "changed" "Column.changed" (defArgs s_Column_changed) (defBody s_Column_changed) (defScope s_Column_changed) (d_Column_changed.dvs K) (d_Column_changed.kws K) (He.ma K (He.ga K "Column") "changed") fd := T.c.def_ 11 (d := d_Column_changed) rfl
theorem fd_column_named (T : Tx K mg) : ∃ fd, FunD K "column_named" "column_named" (defArgs s_column_named) (defBody s_column_named) (defScope s_column_named) (d_column_named.dvs K) (d_column_named.kws K) (He.ga K "column_named") fd := T.c.def_ 12 (d := d_column_named) rfl
theorem fd_column_numbered (T : Tx K mg) : ∃ fd, FunD K "column_numbered" "column_numbered" (defArgs s_column_numbered) (defBody s_column_numbered) (defScope s_column_numbered) (d_column_numbered.dvs K) (d_column_numbered.kws K) (He.ga K "column_numbered") fd := T.c.def_ 13 (d := d_column_numbered) rfl
theorem fd_is_change (T : Tx K mg) : ∃ fd, FunD K "is_change" "is_change" (defArgs s_is_change) (defBody s_is_change) (defScope s_is_change) (d_is_change.dvs K) (d_is_change.kws K) (He.ga K "is_change") fd := T.c.def_ 14 (d := d_is_change) rfl
theorem fd_has_parts (T : Tx K mg) : ∃ fd, FunD K "has_parts" "has_parts" (defArgs s_has_parts) (defBody s_has_parts) (defScope s_has_parts) (d_has_parts.dvs K) (d_has_parts.kws K) (He.ga K "has_parts") fd := T.c.def_ 15 (d := d_has_parts) rfl
theorem fd_is_single_part (T : Tx K mg) : ∃ fd, FunD K "is_single_part" "is_single_part" (defArgs s_is_single_part) (defBody s_is_single_part) (defScope s_is_single_part) (d_is_single_part.dvs K) (d_is_single_part.kws K) (He.ga K "is_single_part") fd := T.c.def_ 16 (d := d_is_single_part) rfl
theorem fd_is_way (T : Tx K mg) : ∃ fd, FunD K "is_way" "is_way" (defArgs s_is_way) (defBody s_is_way) (defScope s_is_way) (d_is_way.dvs K) (d_is_way.kws K) (He.ga K "is_way") fd := T.c.def_ 17 (d := d_is_way) rfl
theorem fd_kind_of (T : Tx K mg) : ∃ fd, FunD K "kind_of" "kind_of" (defArgs s_kind_of) (defBody s_kind_of) (defScope s_kind_of) (d_kind_of.dvs K) (d_kind_of.kws K) (He.ga K "kind_of") fd := T.c.def_ 18 (d := d_kind_of) rfl
theorem fd_hindrance (T : Tx K mg) : ∃ fd, FunD K "hindrance" "hindrance" (defArgs s_hindrance) (defBody s_hindrance) (defScope s_hindrance) (d_hindrance.dvs K) (d_hindrance.kws K) (He.ga K "hindrance") fd := T.c.def_ 19 (d := d_hindrance) rfl
theorem fd_add_hindrance (T : Tx K mg) : ∃ fd, FunD K "add_hindrance" "add_hindrance" (defArgs s_add_hindrance) (defBody s_add_hindrance) (defScope s_add_hindrance) (d_add_hindrance.dvs K) (d_add_hindrance.kws K) (He.ga K "add_hindrance") fd := T.c.def_ 20 (d := d_add_hindrance) rfl
theorem fd_columns_behind (T : Tx K mg) : ∃ fd, FunD K "columns_behind" "columns_behind" (defArgs s_columns_behind) (defBody s_columns_behind) (defScope s_columns_behind) (d_columns_behind.dvs K) (d_columns_behind.kws K) (He.ga K "columns_behind") fd := T.c.def_ 21 (d := d_columns_behind) rfl
theorem fd_changed_column (T : Tx K mg) : ∃ fd, FunD K "changed_column" "changed_column" (defArgs s_changed_column) (defBody s_changed_column) (defScope s_changed_column) (d_changed_column.dvs K) (d_changed_column.kws K) (He.ga K "changed_column") fd := T.c.def_ 22 (d := d_changed_column) rfl
theorem fd_changed_value (T : Tx K mg) : ∃ fd, FunD K "changed_value" "changed_value" (defArgs s_changed_value) (defBody s_changed_value) (defScope s_changed_value) (d_changed_value.dvs K) (d_changed_value.kws K) (He.ga K "changed_value") fd := T.c.def_ 23 (d := d_changed_value) rfl
theorem fd_value_above (T : Tx K mg) : ∃ fd, FunD K "value_above" "value_above" (defArgs s_value_above) (defBody s_value_above) (defScope s_value_above) (d_value_above.dvs K) (d_value_above.kws K) (He.ga K "value_above") fd := T.c.def_ 24 (d := d_value_above) rfl
theorem fd_is_edition (T : Tx K mg) : ∃ fd, FunD K "is_edition" "is_edition" (defArgs s_is_edition) (defBody s_is_edition) (defScope s_is_edition) (d_is_edition.dvs K) (d_is_edition.kws K) (He.ga K "is_edition") fd := T.c.def_ 25 (d := d_is_edition) rfl
theorem fd_edition_of (T : Tx K mg) : ∃ fd, FunD K "edition_of" "edition_of" (defArgs s_edition_of) (defBody s_edition_of) (defScope s_edition_of) (d_edition_of.dvs K) (d_edition_of.kws K) (He.ga K "edition_of") fd := T.c.def_ 26 (d := d_edition_of) rfl
theorem fd_numbered_columns (T : Tx K mg) : ∃ fd, FunD K "numbered_columns" "numbered_columns" (defArgs s_numbered_columns) (defBody s_numbered_columns) (defScope s_numbered_columns) (d_numbered_columns.dvs K) (d_numbered_columns.kws K) (He.ga K "numbered_columns") fd := T.c.def_ 27 (d := d_numbered_columns) rfl
theorem fd_columns_of_editions (T : Tx K mg) : ∃ fd, FunD K "columns_of_editions" "columns_of_editions" (defArgs s_columns_of_editions) (defBody s_columns_of_editions) (defScope s_columns_of_editions) (d_columns_of_editions.dvs K) (d_columns_of_editions.kws K) (He.ga K "columns_of_editions") fd := T.c.def_ 28 (d := d_columns_of_editions) rfl
theorem fd_births (T : Tx K mg) : ∃ fd, FunD K "births" "births" (defArgs s_births) (defBody s_births) (defScope s_births) (d_births.dvs K) (d_births.kws K) (He.ga K "births") fd := T.c.def_ 29 (d := d_births) rfl
theorem fd_drops (T : Tx K mg) : ∃ fd, FunD K "drops" "drops" (defArgs s_drops) (defBody s_drops) (defScope s_drops) (d_drops.dvs K) (d_drops.kws K) (He.ga K "drops") fd := T.c.def_ 30 (d := d_drops) rfl
theorem fd_History___init__ (T : Tx K mg) : ∃ fd, FunD K "__init__" "History.__init__" (defArgs s_History___init__) (defBody s_History___init__) (defScope s_History___init__) (d_History___init__.dvs K) (d_History___init__.kws K) (He.ma K (He.ga K "History") "__init__") fd := T.c.def_ 31 (d := d_History___init__) rfl
theorem fd_History___len__ (T : Tx K mg) : ∃ fd, FunD K "__len__" "History.__len__" (defArgs s_History___len__) (defBody s_History___len__) (defScope s_History___len__) (d_History___len__.dvs K) (d_History___len__.kws K) (He.ma K (He.ga K "History") "__len__") fd := T.c.def_ 32 (d := d_History___len__) rfl
theorem fd_History___getitem__ (T : Tx K mg) : ∃ fd, FunD K "__getitem__" "History.__getitem__" (defArgs s_History___getitem__) (defBody s_History___getitem__) (defScope s_History___getitem__) (d_History___getitem__.dvs K) (d_History___getitem__.kws K) (He.ma K (He.ga K "History") "__getitem__") fd := T.c.def_ 33 (d := d_History___getitem__) rfl
theorem fd_History_first_columns (T : Tx K mg) : ∃ fd, FunD K "first_columns" "History.first_columns" (defArgs s_History_first_columns) (defBody s_History_first_columns) (defScope s_History_first_columns) (d_History_first_columns.dvs K) (d_History_first_columns.kws K) (He.ma K (He.ga K "History") "first_columns") fd := T.c.def_ 34 (d := d_History_first_columns) rfl
theorem fd_History_columns (T : Tx K mg) : ∃ fd, FunD K "columns" "History.columns" (defArgs s_History_columns) (defBody s_History_columns) (defScope s_History_columns) (d_History_columns.dvs K) (d_History_columns.kws K) (He.ma K (He.ga K "History") "columns") fd := T.c.def_ 35 (d := d_History_columns) rfl
theorem fd_History_column (T : Tx K mg) : ∃ fd, FunD K "column" "History.column" (defArgs s_History_column) (defBody s_History_column) (defScope s_History_column) (d_History_column.dvs K) (d_History_column.kws K) (He.ma K (He.ga K "History") "column") fd := T.c.def_ 36 (d := d_History_column) rfl
theorem fd_History_numbers (T : Tx K mg) : ∃ fd, FunD K "numbers" "History.numbers" (defArgs s_History_numbers) (defBody s_History_numbers) (defScope s_History_numbers) (d_History_numbers.dvs K) (d_History_numbers.kws K) (He.ma K (He.ga K "History") "numbers") fd := T.c.def_ 37 (d := d_History_numbers) rfl
theorem fd_History_born (T : Tx K mg) : ∃ fd, FunD K "born" "History.born" (defArgs s_History_born) (defBody s_History_born) (defScope s_History_born) (d_History_born.dvs K) (d_History_born.kws K) (He.ma K (He.ga K "History") "born") fd := T.c.def_ 38 (d := d_History_born) rfl
theorem fd_History_dropped (T : Tx K mg) : ∃ fd, FunD K "dropped" "History.dropped" (defArgs s_History_dropped) (defBody s_History_dropped) (defScope s_History_dropped) (d_History_dropped.dvs K) (d_History_dropped.kws K) (He.ma K (He.ga K "History") "dropped") fd := T.c.def_ 39 (d := d_History_dropped) rfl
theorem fd_History_behind (T : Tx K mg) : ∃ fd, FunD K "behind" "History.behind" (defArgs s_History_behind) (defBody s_History_behind) (defScope s_History_behind) (d_History_behind.dvs K) (d_History_behind.kws K) (He.ma K (He.ga K "History") "behind") fd := T.c.def_ 40 (d := d_History_behind) rfl
theorem fd_is_given (T : Tx K mg) : ∃ fd, FunD K "is_given" "is_given" (defArgs s_is_given) (defBody s_is_given) (defScope s_is_given) (d_is_given.dvs K) (d_is_given.kws K) (He.ga K "is_given") fd := T.c.def_ 41 (d := d_is_given) rfl
theorem fd_changed_row (T : Tx K mg) : ∃ fd, FunD K "changed_row" "changed_row" (defArgs s_changed_row) (defBody s_changed_row) (defScope s_changed_row) (d_changed_row.dvs K) (d_changed_row.kws K) (He.ga K "changed_row") fd := T.c.def_ 42 (d := d_changed_row) rfl
theorem fd_is_stored (T : Tx K mg) : ∃ fd, FunD K "is_stored" "is_stored" (defArgs s_is_stored) (defBody s_is_stored) (defScope s_is_stored) (d_is_stored.dvs K) (d_is_stored.kws K) (He.ga K "is_stored") fd := T.c.def_ 43 (d := d_is_stored) rfl
theorem fd_is_entry (T : Tx K mg) : ∃ fd, FunD K "is_entry" "is_entry" (defArgs s_is_entry) (defBody s_is_entry) (defScope s_is_entry) (d_is_entry.dvs K) (d_is_entry.kws K) (He.ga K "is_entry") fd := T.c.def_ 44 (d := d_is_entry) rfl
theorem fd_trail (T : Tx K mg) : ∃ fd, FunD K "trail" "trail" (defArgs s_trail) (defBody s_trail) (defScope s_trail) (d_trail.dvs K) (d_trail.kws K) (He.ga K "trail") fd := T.c.def_ 45 (d := d_trail) rfl
theorem fd_followed (T : Tx K mg) : ∃ fd, FunD K "followed" "followed" (defArgs s_followed) (defBody s_followed) (defScope s_followed) (d_followed.dvs K) (d_followed.kws K) (He.ga K "followed") fd := T.c.def_ 46 (d := d_followed) rfl
theorem fd_barred_at (T : Tx K mg) : ∃ fd, FunD K "barred_at" "barred_at" (defArgs s_barred_at) (defBody s_barred_at) (defScope s_barred_at) (d_barred_at.dvs K) (d_barred_at.kws K) (He.ga K "barred_at") fd := T.c.def_ 47 (d := d_barred_at) rfl
theorem fd_check_both (T : Tx K mg) : ∃ fd, FunD K "check_both" "check_both" (defArgs s_check_both) (defBody s_check_both) (defScope s_check_both) (d_check_both.dvs K) (d_check_both.kws K) (He.ga K "check_both") fd := T.c.def_ 48 (d := d_check_both) rfl
theorem fd_is_column_unlike (T : Tx K mg) : ∃ fd, FunD K "is_column_unlike" "is_column_unlike" (defArgs s_is_column_unlike) (defBody s_is_column_unlike) (defScope s_is_column_unlike) (d_is_column_unlike.dvs K) (d_is_column_unlike.kws K) (He.ga K "is_column_unlike") fd := T.c.def_ 49 (d := d_is_column_unlike) rfl
theorem fd_is_row_unlike (T : Tx K mg) : ∃ fd, FunD K "is_row_unlike" "is_row_unlike" (defArgs s_is_row_unlike) (defBody s_is_row_unlike) (defScope s_is_row_unlike) (d_is_row_unlike.dvs K) (d_is_row_unlike.kws K) (He.ga K "is_row_unlike") fd := T.c.def_ 50 (d := d_is_row_unlike) rfl
theorem fd_is_read_unlike (T : Tx K mg) : ∃ fd, FunD K "is_read_unlike" "is_read_unlike" (defArgs s_is_read_unlike) (defBody s_is_read_unlike) (defScope s_is_read_unlike) (d_is_read_unlike.dvs K) (d_is_read_unlike.kws K) (He.ga K "is_read_unlike") fd := T.c.def_ 51 (d := d_is_read_unlike) rfl
theorem fd_is_first_row (T : Tx K mg) : ∃ fd, FunD K "is_first_row" "is_first_row" (defArgs s_is_first_row) (defBody s_is_first_row) (defScope s_is_first_row) (d_is_first_row.dvs K) (d_is_first_row.kws K) (He.ga K "is_first_row") fd := T.c.def_ 52 (d := d_is_first_row) rfl
theorem fd_is_unlike (T : Tx K mg) : ∃ fd, FunD K "is_unlike" "is_unlike" (defArgs s_is_unlike) (defBody s_is_unlike) (defScope s_is_unlike) (d_is_unlike.dvs K) (d_is_unlike.kws K) (He.ga K "is_unlike") fd := T.c.def_ 53 (d := d_is_unlike) rfl
theorem fd__law_pool (T : Tx K mg) : ∃ fd, FunD K "_law_pool" "_law_pool" (defArgs s__law_pool) (defBody s__law_pool) (defScope s__law_pool) (d__law_pool.dvs K) (d__law_pool.kws K) (He.ga K "_law_pool") fd := T.c.def_ 54 (d := d__law_pool) rfl
theorem fd__law_draw (T : Tx K mg) : ∃ fd, FunD K "_law_draw" "_law_draw" (defArgs s__law_draw) (defBody s__law_draw) (defScope s__law_draw) (d__law_draw.dvs K) (d__law_draw.kws K) (He.ga K "_law_draw") fd := T.c.def_ 55 (d := d__law_draw) rfl
theorem fd__law_pick (T : Tx K mg) : ∃ fd, FunD K "_law_pick" "_law_pick" (defArgs s__law_pick) (defBody s__law_pick) (defScope s__law_pick) (d__law_pick.dvs K) (d__law_pick.kws K) (He.ga K "_law_pick") fd := T.c.def_ 56 (d := d__law_pick) rfl
theorem fd__law_names (T : Tx K mg) : ∃ fd, FunD K "_law_names" "_law_names" (defArgs s__law_names) (defBody s__law_names) (defScope s__law_names) (d__law_names.dvs K) (d__law_names.kws K) (He.ga K "_law_names") fd := T.c.def_ 57 (d := d__law_names) rfl
theorem fd__law_columns (T : Tx K mg) : ∃ fd, FunD K "_law_columns" "_law_columns" (defArgs s__law_columns) (defBody s__law_columns) (defScope s__law_columns) (d__law_columns.dvs K) (d__law_columns.kws K) (He.ga K "_law_columns") fd := T.c.def_ 58 (d := d__law_columns) rfl
theorem fd__law_some (T : Tx K mg) : ∃ fd, FunD K "_law_some" "_law_some" (defArgs s__law_some) (defBody s__law_some) (defScope s__law_some) (d__law_some.dvs K) (d__law_some.kws K) (He.ga K "_law_some") fd := T.c.def_ 59 (d := d__law_some) rfl
theorem fd__law_fits (T : Tx K mg) : ∃ fd, FunD K "_law_fits" "_law_fits" (defArgs s__law_fits) (defBody s__law_fits) (defScope s__law_fits) (d__law_fits.dvs K) (d__law_fits.kws K) (He.ga K "_law_fits") fd := T.c.def_ 60 (d := d__law_fits) rfl
theorem fd__law_column (T : Tx K mg) : ∃ fd, FunD K "_law_column" "_law_column" (defArgs s__law_column) (defBody s__law_column) (defScope s__law_column) (d__law_column.dvs K) (d__law_column.kws K) (He.ga K "_law_column") fd := T.c.def_ 61 (d := d__law_column) rfl
theorem fd__law_why (T : Tx K mg) : ∃ fd, FunD K "_law_why" "_law_why" (defArgs s__law_why) (defBody s__law_why) (defScope s__law_why) (d__law_why.dvs K) (d__law_why.kws K) (He.ga K "_law_why") fd := T.c.def_ 62 (d := d__law_why) rfl
theorem fd__law_narrow (T : Tx K mg) : ∃ fd, FunD K "_law_narrow" "_law_narrow" (defArgs s__law_narrow) (defBody s__law_narrow) (defScope s__law_narrow) (d__law_narrow.dvs K) (d__law_narrow.kws K) (He.ga K "_law_narrow") fd := T.c.def_ 63 (d := d__law_narrow) rfl
theorem fd__law_col_after (T : Tx K mg) : ∃ fd, FunD K "_law_col_after" "_law_col_after" (defArgs s__law_col_after) (defBody s__law_col_after) (defScope s__law_col_after) (d__law_col_after.dvs K) (d__law_col_after.kws K) (He.ga K "_law_col_after") fd := T.c.def_ 64 (d := d__law_col_after) rfl
theorem fd__law_sheet_after (T : Tx K mg) : ∃ fd, FunD K "_law_sheet_after" "_law_sheet_after" (defArgs s__law_sheet_after) (defBody s__law_sheet_after) (defScope s__law_sheet_after) (d__law_sheet_after.dvs K) (d__law_sheet_after.kws K) (He.ga K "_law_sheet_after") fd := T.c.def_ 65 (d := d__law_sheet_after) rfl
theorem fd__law_change (T : Tx K mg) : ∃ fd, FunD K "_law_change" "_law_change" (defArgs s__law_change) (defBody s__law_change) (defScope s__law_change) (d__law_change.dvs K) (d__law_change.kws K) (He.ga K "_law_change") fd := T.c.def_ 66 (d := d__law_change) rfl
theorem fd__law_history (T : Tx K mg) : ∃ fd, FunD K "_law_history" "_law_history" (defArgs s__law_history) (defBody s__law_history) (defScope s__law_history) (d__law_history.dvs K) (d__law_history.kws K) (He.ga K "_law_history") fd := T.c.def_ 67 (d := d__law_history) rfl
theorem fd__law_longer (T : Tx K mg) : ∃ fd, FunD K "_law_longer" "_law_longer" (defArgs s__law_longer) (defBody s__law_longer) (defScope s__law_longer) (d__law_longer.dvs K) (d__law_longer.kws K) (He.ga K "_law_longer") fd := T.c.def_ 68 (d := d__law_longer) rfl
theorem fd__law_made_column (T : Tx K mg) : ∃ fd, FunD K "_law_made_column" "_law_made_column" (defArgs s__law_made_column) (defBody s__law_made_column) (defScope s__law_made_column) (d__law_made_column.dvs K) (d__law_made_column.kws K) (He.ga K "_law_made_column") fd := T.c.def_ 69 (d := d__law_made_column) rfl
theorem fd__law_made (T : Tx K mg) : ∃ fd, FunD K "_law_made" "_law_made" (defArgs s__law_made) (defBody s__law_made) (defScope s__law_made) (d__law_made.dvs K) (d__law_made.kws K) (He.ga K "_law_made") fd := T.c.def_ 70 (d := d__law_made) rfl
theorem fd__law_step (T : Tx K mg) : ∃ fd, FunD K "_law_step" "_law_step" (defArgs s__law_step) (defBody s__law_step) (defScope s__law_step) (d__law_step.dvs K) (d__law_step.kws K) (He.ga K "_law_step") fd := T.c.def_ 71 (d := d__law_step) rfl
theorem fd__law_followed (T : Tx K mg) : ∃ fd, FunD K "_law_followed" "_law_followed" (defArgs s__law_followed) (defBody s__law_followed) (defScope s__law_followed) (d__law_followed.dvs K) (d__law_followed.kws K) (He.ga K "_law_followed") fd := T.c.def_ 72 (d := d__law_followed) rfl
theorem fd__law_stored (T : Tx K mg) : ∃ fd, FunD K "_law_stored" "_law_stored" (defArgs s__law_stored) (defBody s__law_stored) (defScope s__law_stored) (d__law_stored.dvs K) (d__law_stored.kws K) (He.ga K "_law_stored") fd := T.c.def_ 73 (d := d__law_stored) rfl
theorem fd__law_all_rows (T : Tx K mg) : ∃ fd, FunD K "_law_all_rows" "_law_all_rows" (defArgs s__law_all_rows) (defBody s__law_all_rows) (defScope s__law_all_rows) (d__law_all_rows.dvs K) (d__law_all_rows.kws K) (He.ga K "_law_all_rows") fd := T.c.def_ 74 (d := d__law_all_rows) rfl
theorem fd__law_piece (T : Tx K mg) : ∃ fd, FunD K "_law_piece" "_law_piece" (defArgs s__law_piece) (defBody s__law_piece) (defScope s__law_piece) (d__law_piece.dvs K) (d__law_piece.kws K) (He.ga K "_law_piece") fd := T.c.def_ 75 (d := d__law_piece) rfl
theorem fd__law_heads (T : Tx K mg) : ∃ fd, FunD K "_law_heads" "_law_heads" (defArgs s__law_heads) (defBody s__law_heads) (defScope s__law_heads) (d__law_heads.dvs K) (d__law_heads.kws K) (He.ga K "_law_heads") fd := T.c.def_ 76 (d := d__law_heads) rfl
theorem fd__law_shows (T : Tx K mg) : ∃ fd, FunD K "_law_shows" "_law_shows" (defArgs s__law_shows) (defBody s__law_shows) (defScope s__law_shows) (d__law_shows.dvs K) (d__law_shows.kws K) (He.ga K "_law_shows") fd := T.c.def_ 77 (d := d__law_shows) rfl
theorem fd__law_near (T : Tx K mg) : ∃ fd, FunD K "_law_near" "_law_near" (defArgs s__law_near) (defBody s__law_near) (defScope s__law_near) (d__law_near.dvs K) (d__law_near.kws K) (He.ga K "_law_near") fd := T.c.def_ 78 (d := d__law_near) rfl
theorem fd__law_tuples (T : Tx K mg) : ∃ fd, FunD K "_law_tuples" "_law_tuples" (defArgs s__law_tuples) (defBody s__law_tuples) (defScope s__law_tuples) (d__law_tuples.dvs K) (d__law_tuples.kws K) (He.ga K "_law_tuples") fd := T.c.def_ 79 (d := d__law_tuples) rfl
theorem fd_law (T : Tx K mg) : ∃ fd, FunD K "law" "law" (defArgs s_law) (defBody s_law) (defScope s_law) (d_law.dvs K) (d_law.kws K) (He.ga K "law") fd := T.c.def_ 80 (d := d_law) rfl
theorem ex_PARTS (T : Tx K mg) : He.tupB K "PARTS" [(.str "name"), (.str "greatest"), (.str "default"), (.str "number")] = true := List.all_eq_true.mp T.e _ (List.mem_of_getElem? (i := 0) rfl)
theorem ex_WAYS (T : Tx K mg) : He.tupB K "WAYS" [(.str "cut"), (.str "none"), (.str "refuse")] = true := List.all_eq_true.mp T.e _ (List.mem_of_getElem? (i := 1) rfl)
theorem ex_Column (T : Tx K mg) : insB K "Column" = true := List.all_eq_true.mp T.e _ (List.mem_of_getElem? (i := 2) rfl)
theorem ex_History (T : Tx K mg) : insB K "History" = true := List.all_eq_true.mp T.e _ (List.mem_of_getElem? (i := 3) rfl)
theorem ex_History_fnx (T : Tx K mg) : PySem.W.fnIn K (He.ma K (He.ga K "History") "__getitem__") = true := List.all_eq_true.mp T.e _ (List.mem_of_getElem? (i := 4) rfl)
end
/-! ### the head and the end -/
abbrev RowR : PySem.W.OpenRow := PySem.W.OpenLaw.row PySem.Challenge.rw_editionrows_k63_whole_tuples_that_show_u
abbrev hkR : PySem.W.Hook := hookP 5 fal fnl exl
def obR (s : PySem.W.SharedT) : AlP := obsP 5 fal fnl exl (HandSHeadRun.getT s)
theorem obR_eq (s : PySem.W.SharedT) : obR s = hkR.obs s.abs := obsP_eq (HandSHeadRun.getT_eq s)
abbrev looseR : List PySem.Str := ((["_wall", "TableError", "BadColumn", "BadPart", "BadChange", "BadEdition", "BadRow", "UnknownName", "TooMany", "MISSING", "LETTERS", "LONGEST_NAME", "MOST_GREATEST", "is_whole", "is_list", "is_word", "is_name", "is_greatest", "is_value", "is_within", "is_missing", "PARTS", "Column", "column_named", "column_numbered"] : List PySem.Str) ++ (["WAYS", "MOST_COLUMNS", "is_change", "has_parts", "is_single_part", "is_way", "kind_of", "hindrance", "add_hindrance", "columns_behind", "changed_column", "changed_value", "value_above", "MOST_CHANGES", "is_edition", "edition_of", "numbered_columns", "columns_of_editions", "births", "drops", "History", "is_given", "changed_row", "is_stored", "is_entry"] : List PySem.Str) ++ (["trail", "followed", "barred_at", "check_both", "is_column_unlike", "is_row_unlike", "is_read_unlike", "is_first_row", "is_unlike", "_law_pool", "_law_draw", "_law_pick", "_law_names", "_law_columns", "_law_some", "_law_fits", "_law_column", "_law_why", "_law_narrow", "_law_col_after", "_law_sheet_after", "_law_change", "_law_history", "_law_longer", "_law_made_column"] : List PySem.Str) ++ (["_law_made", "_law_step", "_law_followed", "_law_stored", "_law_all_rows", "_law_piece", "_law_heads", "_law_shows", "_law_near", "_law_tuples"] : List PySem.Str))
theorem runL (w : World) : ∀ os : PySem.OsState, (HandSHeadRun.endF (HandSHeadRun.stepQ (HandSHeadRun.denQ HandSHeadRun.tabQ) RowR.prog w) 9000 RowR.prog w os).map (fun s => (HandSHeadRun.looksF RowR.prog (PySem.W.boot_heap w.params) s.abs, HandSHeadRun.seenQ (PySem.W.view RowR.prog [94]) looseR (PySem.importedModules RowR.prog.main.body) (fun s => PySem.W.xlAt (PySem.W.view RowR.prog [94]) [] s && PySem.W.recOk RowR.toRowW.records s) s.abs)) = some (true, PySem.W.openGood (PySem.W.view RowR.prog [94]) looseR) := by
  intro os
  kernel_rfl
theorem runO0 (w : World) : ∀ os : PySem.OsState, (HandSHeadRun.endF (HandSHeadRun.stepQ (HandSHeadRun.denQ HandSHeadRun.tabQ) RowR.prog w) 9000 RowR.prog w os).map (fun s => obsP 5 fa0 fn0 exl (HandSHeadRun.getT s)) = some (valP fn0) := by
  intro os
  kernel_rfl
theorem obs_two {n : Nat} {fa fb : List He.Fa} {fn gn : List He.DefD} {ex ey : PySem.W.Frag → Bool} {g : Addr → Option Obj} (h1 : obsP n fa fn ex g = valP fn) (h2 : obsP n fb gn ey g = valP gn) : obsP n (fa ++ fb) (fn ++ gn) ex g = valP (fn ++ gn) := by
  have a1 : ((fa.all fun f => f.ok (He.frG g (asW g n))) && fn.all fun d => d.ok (He.frG g (asW g n))) = true := congrArg (fun z : AlP => z.1.1) h1
  have a2 : fn.map (fun d => He.fnW (He.frG g (asW g n)) d.at_) = fn.map He.DefD.val := (congrArg (fun z : AlP => z.1.2) h1).trans (mapV_eq fn)
  have a3 : ex (He.frG g (asW g n)) = true := congrArg (fun z : AlP => z.2) h1
  have b1 : ((fb.all fun f => f.ok (He.frG g (asW g n))) && gn.all fun d => d.ok (He.frG g (asW g n))) = true := congrArg (fun z : AlP => z.1.1) h2
  have b2 : gn.map (fun d => He.fnW (He.frG g (asW g n)) d.at_) = gn.map He.DefD.val := (congrArg (fun z : AlP => z.1.2) h2).trans (mapV_eq gn)
  rw [valP_eq]
  rw [Bool.and_eq_true] at a1 b1
  show ((((fa ++ fb).all fun f => f.ok (He.frG g (asW g n))) && (fn ++ gn).all fun d => d.ok (He.frG g (asW g n)), (fn ++ gn).map fun d => He.fnW (He.frG g (asW g n)) d.at_), ex (He.frG g (asW g n))) = ((true, (fn ++ gn).map He.DefD.val), true)
  rw [List.all_append, List.all_append, a1.1, a1.2, b1.1, b1.2, List.map_append, a2, b2, List.map_append, a3]
  rfl
theorem join_run {S A B C : Type} {o : Option S} {f : S → A} {g : S → B} {h : S → C} {a : A} {b : B} {c : C} (e1 : o.map (fun s => (f s, g s)) = some (a, b)) (e2 : o.map h = some c) : o.map (fun s => (f s, g s, h s)) = some (a, b, c) := by
  cases o with
  | none => cases e1
  | some s =>
    have l : (f s, g s) = (a, b) := Option.some.inj e1
    have l1 : f s = a := congrArg Prod.fst l
    have l2 : g s = b := congrArg Prod.snd l
    have r : h s = c := Option.some.inj e2
    show some (f s, g s, h s) = some (a, b, c)
    rw [l1, l2, r]
theorem join_obs {n : Nat} {fa fb : List He.Fa} {fn gn : List He.DefD} {ex ey : PySem.W.Frag → Bool} {o : Option PySem.W.SharedT} (e1 : o.map (fun s => obsP n fa fn ex (HandSHeadRun.getT s)) = some (valP fn)) (e2 : o.map (fun s => obsP n fb gn ey (HandSHeadRun.getT s)) = some (valP gn)) :
    o.map (fun s => obsP n (fa ++ fb) (fn ++ gn) ex (HandSHeadRun.getT s)) = some (valP (fn ++ gn)) := by
  cases o with
  | none => cases e1
  | some s => exact congrArg some (obs_two (Option.some.inj e1) (Option.some.inj e2))
theorem runR (w : World) : HandSHeadRun.RunEq RowR (PySem.W.view RowR.prog [94]) hkR obR 9000 looseR w := fun os => join_run (runL w os) (runO0 w os)
section
variable {P : Program} {w : World} {K : PySem.W.Frag} {mg : Str → Option Value} {base : Heap}
/-! is_whole -/
def sp_is_whole (K : PySem.W.Frag) : Sp := fun vs H Q _ => ∃ (x : V) (t : String), vs = [x] ∧ TyX K H x (.type t) ∧ Q (.bl (isI x)) H
theorem ok_is_whole (T : Tx K mg) : Callee P w K mg base CX0 1 "is_whole" ["value"] [] (sp_is_whole K) := by
  refine mkCallee (fd_is_whole T) (mg_is_whole T) sc_is_whole (fun _ _ _ _ _ _ us hl => match us, hl with | [_], _ => rfl) (fun vs H Q E h => ?_) (fun cdv A outer s H vs Q E hr h => ?_)
  · obtain ⟨x, t, rfl, _⟩ := h
    rfl
  · obtain ⟨x, t, rfl, ty, k⟩ := h
    obtain ⟨ba, bb, e1, e2, e3⟩ := kit_whole ty
    refine ⟨_, pss_one (ps_ret (pe_and (pe_callB call_isi (by rfl) (fr_isinstance T) (by decide +kernel) (pa_cons (pv 0) (pa_cons (pe_bltn (v := .ty "int") (by rfl) (fr_int T) (by decide +kernel) rfl) pa_nil)))
      (pe_one (pe_not (pe_callB call_isi (by rfl) (fr_isinstance T) (by decide +kernel) (pa_cons (pv 0) (pa_cons (pe_bltn (v := .ty "bool") (by rfl) (fr_bool T) (by decide +kernel) rfl) pa_nil))))))), ?_⟩
    refine ⟨x, rfl, x, .ty "int", _, _, ba, rfl, .ty "int", ty, kit_ty e1, ba, rfl, ?_⟩
    cases ba with
    | false =>
      refine iteF ?_
      rw [← e3] at k
      exact k
    | true =>
      refine iteT ⟨x, rfl, x, .ty "bool", _, _, bb, rfl, .ty "bool", ty, kit_ty e2, bb, rfl, ?_⟩
      rw [← e3] at k
      exact k
/-! is_list, of a list or a tuple -/
theorem sqL_ty {K : PySem.W.Frag} {H : Hp} {a : Addr} {xs : List V} (h : SqL K H a xs) : TyX K H (.ref a) (.type "list") := by
  rcases h with (h | ⟨o, h⟩) | ⟨o, its, n, h, hc, _⟩
  · exact .base (.lst h)
  · exact .base (.frz h)
  · exact .kList h hc
def sp_is_list (K : PySem.W.Frag) : Sp := fun vs H Q _ => ∃ (a : Addr) (xs : List V), vs = [.ref a] ∧ SqL K H a xs ∧ ∀ H', Same H H' → Q (.bl true) H'
theorem ok_is_list (T : Tx K mg) : Callee P w K mg base CX0 1 "is_list" ["value"] [] (sp_is_list K) := by
  refine mkCallee (fd_is_list T) (mg_is_list T) sc_is_list (fun _ _ _ _ _ _ us hl => match us, hl with | [_], _ => rfl) (fun vs H Q E h => ?_) (fun cdv A outer s H vs Q E hr h => ?_)
  · obtain ⟨a, xs, rfl, _⟩ := h
    rfl
  · obtain ⟨a, xs, rfl, hx, k⟩ := h
    refine ⟨_, pss_one (ps_ret (pe_callB call_isiT (by rfl) (fr_isinstance T) (by decide +kernel) (pa_cons (pv 0) (pa_cons (pe_tup (pa_cons (pe_bltn (v := .ty "list") (by rfl) (fr_list T) (by decide +kernel) rfl) (pa_cons (pe_bltn (v := .ty "tuple") (by rfl) (fr_tuple T) (by decide +kernel) rfl) pa_nil))) pa_nil)))), ?_⟩
    refine ⟨_, rfl, (by show 2 ≤ sizeLine; decide), fun t nt => ?_⟩
    have s := same_new (o := .tup [.ty "list", .ty "tuple"]) nt
    exact ⟨.ref a, t, _, _, _, true, rfl, upd_same, .cons (.ty "list") (.cons (.ty "tuple") .nil), sqL_ty (s.seq hx), kitAny_cons (b := true) (kit_ty (by decide +kernel)) (fun z => by cases z) (fun _ => rfl), k _ s⟩
/-! is_word, of any value and a tuple of words -/
def wordV (x : V) (xs : List V) : Bool := match x with
  | .str z => inV (.str z) xs
  | _ => false
theorem kit_strW {K : PySem.W.Frag} {H : Hp} {x : V} {t : String} (ty : TyX K H x (.type t)) : ∃ a : Bool, kitB t "str" = some a ∧ ((a = true ∧ ∃ z, x = .str z) ∨ (a = false ∧ ∀ xs, wordV x xs = false)) := by
  cases ty with
  | base h =>
    cases h with
    | str z => exact ⟨true, by decide +kernel, .inl ⟨rfl, z, rfl⟩⟩
    | _ => exact ⟨false, by decide +kernel, .inr ⟨rfl, fun _ => rfl⟩⟩
  | _ => exact ⟨false, by decide +kernel, .inr ⟨rfl, fun _ => rfl⟩⟩
def sp_is_word (K : PySem.W.Frag) : Sp := fun vs H Q _ => ∃ (x : V) (t : String) (p : Addr) (xs : List V), vs = [x, .ref p] ∧ TyX K H x (.type t) ∧ SqT K H p xs ∧ xs.all flatV = true ∧ Q (.bl (wordV x xs)) H
theorem ok_is_word (T : Tx K mg) : Callee P w K mg base CX0 1 "is_word" ["value", "words"] [] (sp_is_word K) := by
  refine mkCallee (fd_is_word T) (mg_is_word T) sc_is_word (fun _ _ _ _ _ _ us hl => match us, hl with | [_, _], _ => rfl) (fun vs H Q E h => ?_) (fun cdv A outer s H vs Q E hr h => ?_)
  · obtain ⟨x, t, p, xs, rfl, _⟩ := h
    rfl
  · obtain ⟨x, t, p, xs, rfl, ty, hp, hf, k⟩ := h
    obtain ⟨a, e1, e2⟩ := kit_strW ty
    refine ⟨_, pss_one (ps_ret (pe_and (pe_callB call_isi (by rfl) (fr_isinstance T) (by decide +kernel) (pa_cons (pv 0) (pa_cons (pe_bltn (v := .ty "str") (by rfl) (fr_str T) (by decide +kernel) rfl) pa_nil)))
      (pe_one (pe_cmpR op_in_seq (pv 0) (pv 1) (by rfl))))), ?_⟩
    refine ⟨x, rfl, x, .ty "str", _, _, a, rfl, .ty "str", ty, kit_ty e1, a, rfl, ?_⟩
    rcases e2 with ⟨rfl, z, rfl⟩ | ⟨rfl, e⟩
    · exact iteT ⟨_, rfl, _, rfl, p, xs, rfl, .inr hp, rfl, hf, k⟩
    · rw [e xs] at k
      exact k
/-! is_name -/
def letters : Str := "abcdefghijklmnopqrstuvwxyz"
def isNm : V → Bool
  | .str n => decide (1 ≤ n.length) && (decide (n.length ≤ 8) && n.cps.toList.all fun c => decide (c ∈ letters.cps.toList))
  | _ => false
def sp_is_name (K : PySem.W.Frag) : Sp := fun vs H Q _ => ∃ (x : V) (t : String), vs = [x] ∧ TyX K H x (.type t) ∧ (∀ n, x = .str n → n.length ≤ 1000) ∧ ∀ H', Same H H' → Q (.bl (isNm x)) H'
theorem kit_str2 {K : PySem.W.Frag} {H : Hp} {x : V} {t : String} (ty : TyX K H x (.type t)) : ∃ a : Bool, kitB t "str" = some a ∧ ((a = true ∧ ∃ z, x = .str z) ∨ (a = false ∧ ∀ z, x ≠ .str z)) := by
  cases ty with
  | base h =>
    cases h with
    | str z => exact ⟨true, by decide +kernel, .inl ⟨rfl, z, rfl⟩⟩
    | _ => exact ⟨false, by decide +kernel, .inr ⟨rfl, fun z h => by cases h⟩⟩
  | _ => exact ⟨false, by decide +kernel, .inr ⟨rfl, fun z h => by cases h⟩⟩
theorem ok_is_name (T : Tx K mg) : Callee P w K mg base CX0 1 "is_name" ["value"] [] (sp_is_name K) := by
  refine mkCallee (fd_is_name T) (mg_is_name T) sc_is_name (fun _ _ _ _ _ _ us hl => match us, hl with | [_], _ => rfl) (fun vs H Q E h => ?_) (fun cdv A outer s H vs Q E hr h => ?_)
  · obtain ⟨x, t, rfl, _⟩ := h
    rfl
  · obtain ⟨x, t, rfl, ty, hlen, k⟩ := h
    obtain ⟨tk, gL⟩ := ms_LETTERS T
    obtain ⟨tk2, gN⟩ := mi_LONGEST_NAME T
    obtain ⟨a, e1, e2⟩ := kit_str2 ty
    have nd := sc_is_name.nd
    refine ⟨_, pss_cons (ps_if (PW.pt (pw_or (pt_not (pt_val (pe_callB call_isi (by rfl) (fr_isinstance T) (by decide +kernel) (pa_cons (pv 0) (pa_cons (pe_bltn (v := .ty "str") (by rfl) (fr_str T) (by decide +kernel) rfl) pa_nil)))))
        (pw_or1 (pt_not (pt_chain op_le op_le pe_int (pe_callB call_len_str (by rfl) (fr_len T) PySem.boot_len (pa_cons (pv 0) pa_nil)) (pe_glob (v := .int 8) (by rfl) gN ⟨_, rfl⟩)))))) (pss_one (ps_ret pe_bl)) pss_nil)
      (pss_one (ps_ret (pe_callB (cr_all rfl) (by rfl) (fr_all T) (by decide +kernel) (pa_cons (pe_lc (own := [("letter", 1)]) (g := gName 1) (tt := tYes) rfl nd (pi_str (pv 0)) (blkOk_by (N := ["value", "letter"]) (sc := defScope s_is_name) (by decide +kernel))
        (fun _ _ _ _ _ => pg_name (i := 1) nd rfl (Or.inl rfl)) (fun _ _ _ _ _ => pts_nil) (fun _ _ _ _ _ => pe_cmpR op_in_sign (pv 1) (pe_glob (v := .str letters) (by rfl) gL ⟨_, rfl⟩) (by rfl))) pa_nil)))), ?_⟩
    refine ⟨x, rfl, x, .ty "str", _, _, a, rfl, .ty "str", ty, kit_ty e1, _, rfl, ?_⟩
    rcases e2 with ⟨rfl, z, rfl⟩ | ⟨rfl, hz⟩
    · have hl := hlen z rfl
      refine iteF ⟨_, rfl, z, rfl, Nat.le_trans hl (by decide), _, _, rfl, rfl, decide ((1 : Int) ≤ (z.length : Int)), rfl, ?_⟩
      have e0 : isNm (.str z) = (decide ((1 : Int) ≤ (z.length : Int)) && (decide ((z.length : Int) ≤ 8) && z.cps.toList.all fun c => decide (c ∈ letters.cps.toList))) := by
        have a1 : decide (1 ≤ z.length) = decide ((1 : Int) ≤ (z.length : Int)) := by
          rw [decide_eq_decide]
          omega
        have a2 : decide (z.length ≤ 8) = decide ((z.length : Int) ≤ 8) := by
          rw [decide_eq_decide]
          omega
        show (decide (1 ≤ z.length) && (decide (z.length ≤ 8) && _)) = _
        rw [a1, a2]
      cases h1 : decide ((1 : Int) ≤ (z.length : Int)) with
      | false =>
        have e9 : isNm (.str z) = false := by
          rw [e0, h1]
          rfl
        rw [e9] at k
        exact iteF ⟨false, rfl, iteT (k H (Same.refl _))⟩
      | true =>
        refine iteT ⟨_, _, rfl, rfl, decide ((z.length : Int) ≤ 8), rfl, ?_⟩
        rw [h1] at e0
        cases h2 : decide ((z.length : Int) ≤ 8) with
        | false =>
          have e9 : isNm (.str z) = false := by
            rw [e0, h2]
            rfl
          rw [e9] at k
          exact iteT (k H (Same.refl _))
        | true =>
          rw [h2, Bool.true_and, Bool.true_and] at e0
          rw [e0] at k
          refine iteF (nxt ?_)
          dsimp only
          refine pl_r1 (tlc_S (fun c => .bl (decide (c ∈ letters.cps.toList))) z ?_ ?_ ?_ ?_ ?_)
          · exact fun R r => ⟨_, rfl, r⟩
          · exact Nat.le_trans hl (by decide)
          · exact fun x => rfl
          · exact fun c hc H' s' R r => ⟨_, rfl, c, letters, rfl, rfl, r H' (Same.refl _)⟩
          · intro D H' hD sD hD2
            refine ⟨D, z.cps.toList.map fun c => decide (c ∈ letters.cps.toList), rfl, sqL_of (by rw [List.map_map]; exact hD2), ?_⟩
            rw [List.all_map]
            exact k H' sD
    · have e0 : isNm x = false := by
        cases x with
        | str z => exact absurd rfl (hz z)
        | _ => rfl
      rw [e0] at k
      exact k H (Same.refl _)
/-! is_greatest -/
def isGr : V → Bool
  | .int i => decide (1 ≤ i) && decide (i ≤ 99)
  | _ => false
def sp_is_greatest (K : PySem.W.Frag) : Sp := fun vs H Q _ => ∃ (x : V) (t : String), vs = [x] ∧ TyX K H x (.type t) ∧ Q (.bl (isGr x)) H
theorem ok_is_greatest (T : Tx K mg) : Callee P w K mg base CX0 2 "is_greatest" ["value"] [] (sp_is_greatest K) := by
  have C1 := ok_is_whole (P := P) (w := w) (base := base) T
  refine mkCallee (fd_is_greatest T) (mg_is_greatest T) sc_is_greatest (fun _ _ _ _ _ _ us hl => match us, hl with | [_], _ => rfl) (fun vs H Q E h => ?_) (fun cdv A outer s H vs Q E hr h => ?_)
  · obtain ⟨x, t, rfl, _⟩ := h
    rfl
  · obtain ⟨x, t, rfl, ty, k⟩ := h
    obtain ⟨tk, gM⟩ := mi_MOST_GREATEST T
    refine ⟨_, pss_one (ps_ret (pe_and (pcall C1 hr (pa_cons (pv 0) pa_nil)) (pe_one (pe_chain op_le op_le pe_int (pv 0) (pe_glob (v := .int 99) (by rfl) gM ⟨_, rfl⟩))))), ?_⟩
    refine ⟨x, rfl, x, t, rfl, ty, _, rfl, ?_⟩
    cases x with
    | int i =>
      refine iteT ⟨_, rfl, _, _, rfl, rfl, _, rfl, ?_⟩
      have e : isGr (.int i) = (decide (1 ≤ i) && decide (i ≤ 99)) := rfl
      rw [e] at k
      cases h1 : decide (1 ≤ i) with
      | false =>
        rw [h1] at k
        exact k
      | true =>
        rw [h1] at k
        exact ⟨_, _, rfl, rfl, k⟩
    | _ => exact iteF k
/-! is_value -/
def isVal : V → Bool
  | .non => true
  | .int i => decide (0 ≤ i)
  | _ => false
def sp_is_value (K : PySem.W.Frag) : Sp := fun vs H Q _ => ∃ (x : V) (t : String), vs = [x] ∧ TyX K H x (.type t) ∧ Q (.bl (isVal x)) H
theorem ok_is_value (T : Tx K mg) : Callee P w K mg base CX0 2 "is_value" ["value"] [] (sp_is_value K) := by
  have C1 := ok_is_whole (P := P) (w := w) (base := base) T
  refine mkCallee (fd_is_value T) (mg_is_value T) sc_is_value (fun _ _ _ _ _ _ us hl => match us, hl with | [_], _ => rfl) (fun vs H Q E h => ?_) (fun cdv A outer s H vs Q E hr h => ?_)
  · obtain ⟨x, t, rfl, _⟩ := h
    rfl
  · obtain ⟨x, t, rfl, ty, k⟩ := h
    refine ⟨_, pss_one (ps_ret (pe_or (pe_cmpR op_isN (pv 0) pe_non (nomark _)) (pe_one (pe_and (pcall C1 hr (pa_cons (pv 0) pa_nil)) (pe_one (pe_cmpR op_ge (pv 0) pe_int (nomark _))))))), ?_⟩
    refine ⟨x, rfl, rfl, _, rfl, ?_⟩
    by_cases hx : x = .non
    · subst hx
      exact k
    · rw [decide_eq_false hx]
      refine iteF ⟨x, rfl, x, t, rfl, ty, _, rfl, ?_⟩
      cases x with
      | int i => exact ⟨_, rfl, _, _, rfl, rfl, k⟩
      | non => exact absurd rfl hx
      | _ => exact k
/-! is_within -/
def isIn (g : Int) : V → Bool
  | .non => true
  | .int i => decide (0 ≤ i) && decide (i ≤ g)
  | _ => false
def sp_is_within (K : PySem.W.Frag) : Sp := fun vs H Q _ => ∃ (x : V) (g : Int) (t : String), vs = [x, .int g] ∧ TyX K H x (.type t) ∧ Q (.bl (isIn g x)) H
theorem ok_is_within (T : Tx K mg) : Callee P w K mg base CX0 3 "is_within" ["value", "greatest"] [] (sp_is_within K) := by
  have C1 := ok_is_value (P := P) (w := w) (base := base) T
  refine mkCallee (fd_is_within T) (mg_is_within T) sc_is_within (fun _ _ _ _ _ _ us hl => match us, hl with | [_, _], _ => rfl) (fun vs H Q E h => ?_) (fun cdv A outer s H vs Q E hr h => ?_)
  · obtain ⟨x, g, t, rfl, _⟩ := h
    rfl
  · obtain ⟨x, g, t, rfl, ty, k⟩ := h
    refine ⟨_, pss_one (ps_ret (pe_and (pcall C1 hr (pa_cons (pv 0) pa_nil)) (pe_one (pe_or (pe_cmpR op_isN (pv 0) pe_non (nomark _)) (pe_one (pe_cmpR op_le (pv 0) (pv 1) (nomark _))))))), ?_⟩
    refine ⟨x, rfl, x, t, rfl, ty, _, rfl, ?_⟩
    cases x with
    | non => exact ⟨_, rfl, rfl, _, rfl, k⟩
    | int i =>
      by_cases hi : 0 ≤ i
      · have e : isVal (.int i) = true := decide_eq_true hi
        rw [e]
        refine ⟨_, rfl, rfl, _, rfl, ?_⟩
        refine ⟨_, rfl, _, rfl, _, _, rfl, rfl, ?_⟩
        have e2 : isIn g (.int i) = decide (i ≤ g) := by
          show (decide (0 ≤ i) && decide (i ≤ g)) = _
          rw [decide_eq_true hi, Bool.true_and]
        rw [e2] at k
        exact k
      · have e : isVal (.int i) = false := decide_eq_false hi
        rw [e]
        have e2 : isIn g (.int i) = false := by
          show (decide (0 ≤ i) && decide (i ≤ g)) = _
          rw [decide_eq_false hi, Bool.false_and]
        rw [e2] at k
        exact k
    | _ => exact k
/-! is_missing -/
def isMis : V → Bool
  | .str z => decide (z = "missing")
  | _ => false
theorem word_mis (x : V) : wordV x [.str "missing"] = isMis x := by
  cases x with
  | str z =>
    show (("missing" : Str) == z || false) = decide (z = "missing")
    rw [Bool.or_false]
    by_cases h : z = "missing"
    · rw [h, decide_eq_true rfl]
      exact beq_self_eq_true _
    · rw [decide_eq_false h]
      exact beq_eq_false_iff_ne.mpr (fun e => h e.symm)
  | _ => rfl
def sp_is_missing (K : PySem.W.Frag) : Sp := fun vs H Q _ => ∃ (x : V) (t : String), vs = [x] ∧ TyX K H x (.type t) ∧ (∀ H', Same H H' → TyX K H' x (.type t)) ∧ ∀ H', Same H H' → Q (.bl (isMis x)) H'
theorem ok_is_missing (T : Tx K mg) : Callee P w K mg base CX0 2 "is_missing" ["value"] [] (sp_is_missing K) := by
  have C1 := ok_is_word (P := P) (w := w) (base := base) T
  refine mkCallee (fd_is_missing T) (mg_is_missing T) sc_is_missing (fun _ _ _ _ _ _ us hl => match us, hl with | [_], _ => rfl) (fun vs H Q E h => ?_) (fun cdv A outer s H vs Q E hr h => ?_)
  · obtain ⟨x, t, rfl, _⟩ := h
    rfl
  · obtain ⟨x, t, rfl, ty, tm, k⟩ := h
    obtain ⟨tk, gM⟩ := ms_MISSING T
    refine ⟨_, pss_one (ps_ret (pcall C1 hr (pa_cons (pv 0) (pa_cons (pe_tup (pa_cons (pe_glob (v := .str "missing") (by rfl) gM ⟨_, rfl⟩) pa_nil)) pa_nil)))), ?_⟩
    refine ⟨_, rfl, by decide, fun p np => ⟨x, t, p, _, rfl, tm _ (same_new np), sqT_of upd_same, rfl, ?_⟩⟩
    rw [word_mis]
    exact k _ (same_new np)
/-! Column.__init__, where its parts fit -/
def colFs (n : Str) (g : Int) (d : V) (k : Int) : List (Str × V) := [("name", .str n), ("greatest", .int g), ("default", d), ("number", .int k)]
theorem colFs_eq (n : Str) (g : Int) (d : V) (k : Int) : putF "number" (.int k) (putF "default" d (putF "greatest" (.int g) (putF "name" (.str n) []))) = colFs n g d k := by
  have h1 : ¬ (("name" : Str) = "greatest") := by decide +kernel
  have h2 : ¬ (("name" : Str) = "default") := by decide +kernel
  have h3 : ¬ (("greatest" : Str) = "default") := by decide +kernel
  have h4 : ¬ (("name" : Str) = "number") := by decide +kernel
  have h5 : ¬ (("greatest" : Str) = "number") := by decide +kernel
  have h6 : ¬ (("default" : Str) = "number") := by decide +kernel
  simp only [putF, if_neg h1, if_neg h2, if_neg h3, if_neg h4, if_neg h5, if_neg h6]
  rfl
theorem put2 (n : Str) (g : Int) : putF "greatest" (.int g) (putF "name" (.str n) []) = ([("name", .str n), ("greatest", .int g)] : List (Str × V)) := by
  have h1 : ¬ (("name" : Str) = "greatest") := by decide +kernel
  simp only [putF, if_neg h1]
theorem put3 (n : Str) (g : Int) (d : V) : putF "default" d (putF "greatest" (.int g) (putF "name" (.str n) [])) = ([("name", .str n), ("greatest", .int g), ("default", d)] : List (Str × V)) := by
  have h2 : ¬ (("name" : Str) = "default") := by decide +kernel
  have h3 : ¬ (("greatest" : Str) = "default") := by decide +kernel
  rw [put2]
  simp only [putF, if_neg h2, if_neg h3]
theorem colFs_name {n : Str} {g : Int} {d : V} {k : Int} : (colFs n g d k).lookup ("name" : Str) = some (.str n) := by
  unfold colFs
  simp [List.lookup]
theorem colFs_greatest {n : Str} {g : Int} {d : V} {k : Int} : (colFs n g d k).lookup ("greatest" : Str) = some (.int g) := by
  have h1 : (("greatest" : Str) == "name") = false := by decide +kernel
  unfold colFs
  simp [List.lookup, h1]
theorem colFs_default {n : Str} {g : Int} {d : V} {k : Int} : (colFs n g d k).lookup ("default" : Str) = some d := by
  have h1 : (("default" : Str) == "name") = false := by decide +kernel
  have h2 : (("default" : Str) == "greatest") = false := by decide +kernel
  unfold colFs
  simp [List.lookup, h1, h2]
theorem colFs_number {n : Str} {g : Int} {d : V} {k : Int} : (colFs n g d k).lookup ("number" : Str) = some (.int k) := by
  have h1 : (("number" : Str) == "name") = false := by decide +kernel
  have h2 : (("number" : Str) == "greatest") = false := by decide +kernel
  have h3 : (("number" : Str) == "default") = false := by decide +kernel
  unfold colFs
  simp [List.lookup, h1, h2, h3]
/-- a Column stands at c -/
def ColAt (K : PySem.W.Frag) (H : Hp) (c : Addr) (n : Str) (g : Int) (d : V) (k : Int) : Prop := ∃ dx, H c = some (.ins (He.ga K "Column") dx (colFs n g d k))
def sp_Col_init (K : PySem.W.Frag) : Sp := fun vs H Q _ => ∃ (c dx : Addr) (n : Str) (g k : Int) (d : V), vs = [.ref c, .str n, .int g, d, .int k] ∧ H c = some (.ins (He.ga K "Column") dx []) ∧ isNm (.str n) = true ∧ isGr (.int g) = true ∧ isIn g d = true ∧ 0 ≤ k ∧
  ∀ H', ColAt K H' c n g d k → (∀ b o, b ≠ c → H b = some o → H' b = some o) → Q .non H'
theorem nm_len {n : Str} (h : isNm (.str n) = true) : n.length ≤ 1000 := by
  have h' : (decide (1 ≤ n.length) && (decide (n.length ≤ 8) && _)) = true := h
  rw [Bool.and_eq_true, Bool.and_eq_true] at h'
  have := of_decide_eq_true h'.2.1
  omega
theorem ok_Col_init (T : Tx K mg) : ∃ fd, FnOk P w K mg base CX0 4 (He.ma K (He.ga K "Column") "__init__") fd ["self", "name", "greatest", "default", "number"] (sp_Col_init K) ∧
    FunD K "__init__" "Column.__init__" (defArgs s_Column___init__) (defBody s_Column___init__) (defScope s_Column___init__) (d_Column___init__.dvs K) (d_Column___init__.kws K) (He.ma K (He.ga K "Column") "__init__") fd := by
  have C1 := (ok_is_name (P := P) (w := w) (base := base) T).up (show 1 ≤ 3 by decide)
  have C2 := (ok_is_greatest (P := P) (w := w) (base := base) T).up (show 2 ≤ 3 by decide)
  have C3 := ok_is_within (P := P) (w := w) (base := base) T
  have C4 := (ok_is_whole (P := P) (w := w) (base := base) T).up (show 1 ≤ 3 by decide)
  obtain ⟨fd, F⟩ := fd_Column___init__ T
  refine ⟨fd, F.ok (CX := CX0) sc_Column___init__ (fun vs H Q E h => ?_) (fun cdv A outer s H vs Q E hr h => ?_), F⟩
  · obtain ⟨c, dx, n, g, k, d, rfl, _⟩ := h
    rfl
  suffices hh : ∃ t, PSs (cxOf CX0 P w K mg base ["self", "name", "greatest", "default", "number"] "Column.__init__" (defScope s_Column___init__) (He.ma K (He.ga K "Column") "__init__") cdv A outer s H E).nox (defBody s_Column___init__) t ∧
      t { nx := fun _ H' => Q .non H', rt := Q } (start ["self", "name", "greatest", "default", "number"] vs) H by
    obtain ⟨t, h1, h2⟩ := hh
    exact ⟨t, h1.nox, h2⟩
  obtain ⟨c, dx, n, g, k, d, rfl, hc, hn, hg, hd, hk, kk⟩ := h
  have cl := cl_Column T
  refine ⟨_, pss_cons (ps_if (pt_not (pt_val (pcall C1 hr (pa_cons (pv 1) pa_nil)))) (pss_one ps_never) pss_nil)
    (pss_cons (ps_if (pt_not (pt_val (pcall C2 hr (pa_cons (pv 2) pa_nil)))) (pss_one ps_never) pss_nil)
    (pss_cons (ps_if (pt_not (pt_val (pcall C3 hr (pa_cons (pv 3) (pa_cons (pv 2) pa_nil))))) (pss_one ps_never) pss_nil)
    (pss_cons (ps_if (PW.pt (pw_or (pt_not (pt_val (pcall C4 hr (pa_cons (pv 4) pa_nil)))) (pw_or1 (pt_cmpR op_lt (pv 4) pe_int (nomark _))))) (pss_one ps_never) pss_nil)
    (pss_cons (ps_fld (pv 0) (pv 1) rfl) (pss_cons (ps_fld (pv 0) (pv 2) rfl) (pss_cons (ps_fld (pv 0) (pv 3) rfl) (pss_one (ps_fld (pv 0) (pv 4) rfl)))))))), ?_⟩
  have td : ∃ t, ∀ H : Hp, TyX K H d (.type t) := by
    cases d with
    | non => exact ⟨_, fun _ => .base .non⟩
    | int i => exact ⟨_, fun _ => .base (.int i)⟩
    | _ => cases hd
  obtain ⟨t, td⟩ := td
  refine ⟨_, rfl, .str n, _, rfl, .base (.str n), fun m e => by cases e; exact nm_len hn, fun H1 s1 => ⟨_, rfl, ?_⟩⟩
  rw [hn]
  refine iteF ⟨_, rfl, .int g, _, rfl, .base (.int g), _, rfl, ?_⟩
  rw [hg]
  refine iteF ⟨_, rfl, _, rfl, d, g, _, rfl, td _, _, rfl, ?_⟩
  rw [hd]
  refine iteF ⟨_, rfl, .int k, _, rfl, .base (.int k), _, rfl, iteF ⟨_, rfl, _, _, rfl, rfl, _, rfl, ?_⟩⟩
  rw [decide_eq_false (show ¬ k < 0 by omega)]
  refine iteF ?_
  have hc1 := s1 _ _ hc
  refine ⟨_, rfl, _, rfl, c, _, dx, _, rfl, hc1, cl, na_Column_name T, (by show 0 < 1000; decide), ?_⟩
  refine ⟨_, rfl, _, rfl, c, _, dx, _, rfl, upd_same, cl, na_Column_greatest T, (by show 1 < 1000; decide), ?_⟩
  refine ⟨_, rfl, _, rfl, c, _, dx, _, rfl, upd_same, cl, na_Column_default T, (by rw [put2]; show 2 < 1000; decide), ?_⟩
  refine ⟨_, rfl, _, rfl, c, _, dx, _, rfl, upd_same, cl, na_Column_number T, (by rw [put3]; show 3 < 1000; decide), ?_⟩
  refine kk _ ⟨dx, ?_⟩ fun b o hb e => by rw [upd_ne hb, upd_ne hb, upd_ne hb, upd_ne hb]; exact s1 _ _ e
  rw [upd_same, colFs_eq]
/-- Column(name, greatest, default) -/
theorem binds_Col3 (T : Tx K mg) {fd : FuncData} (F : FunD K "__init__" "Column.__init__" (defArgs s_Column___init__) (defBody s_Column___init__) (defScope s_Column___init__) (d_Column___init__.dvs K) (d_Column___init__.kws K) (He.ma K (He.ga K "Column") "__init__") fd) :
    ∃ ds, Vals [V.int 0] ds ∧ Binds K fd ["self", "name", "greatest", "default", "number"] ds := by
  have h := F.binds (ps := ["self", "name", "greatest", "default", "number"]) 4 1 (by intro z; cases z) rfl (fun TT D doc pm an cdv ct us its ks h1 h2 h3 => ?_) (by intro z; cases z)
  · exact h
  · match us, h1, its, h2, ks, h3 with
    | [u0, u1, u2, u3], _, [i0], _, [k0], _ => exact ⟨_, rfl, _, _, _, _, _, _, rfl, rfl, rfl⟩
/-! Column.changed, where the part fits -/
def put (part : Str) (v : V) (n : V) (g : V) (d : V) (k : V) : List (Key × V) := putK ([(Sum.inr "name", n), (Sum.inr "greatest", g), (Sum.inr "default", d), (Sum.inr "number", k)] : List (Key × V)) (Sum.inr part) v
/-- what stands under the four names behind it -/
structure Four (part : Str) (v n g d k n' g' d' k' : V) : Prop where
  part_ : part = "name" ∨ part = "greatest" ∨ part = "default" ∨ part = "number"
  eq : (n', g', d', k') = (if part = "name" then (v, g, d, k) else if part = "greatest" then (n, v, d, k) else if part = "default" then (n, g, v, k) else (n, g, d, v))
theorem merge4 (x y z u : V) : mergeK [] [(Sum.inr "name", x), (Sum.inr "greatest", y), (Sum.inr "default", z), (Sum.inr "number", u)] = ([(Sum.inr "name", x), (Sum.inr "greatest", y), (Sum.inr "default", z), (Sum.inr "number", u)] : List (Key × V)) := by
  have h1 : ¬ ((Sum.inr "name" : Key) = (Sum.inr "greatest" : Key)) := by decide +kernel
  have h2 : ¬ ((Sum.inr "name" : Key) = (Sum.inr "default" : Key)) := by decide +kernel
  have h3 : ¬ ((Sum.inr "name" : Key) = (Sum.inr "number" : Key)) := by decide +kernel
  have h4 : ¬ ((Sum.inr "greatest" : Key) = (Sum.inr "default" : Key)) := by decide +kernel
  have h5 : ¬ ((Sum.inr "greatest" : Key) = (Sum.inr "number" : Key)) := by decide +kernel
  have h6 : ¬ ((Sum.inr "default" : Key) = (Sum.inr "number" : Key)) := by decide +kernel
  simp [mergeK, putK, h1, h2, h3, h4, h5, h6]
theorem put_get {part : Str} {v n g d k n' g' d' k' : V} (f : Four part v n g d k n' g' d' k') : valV (put part v n g d k) (Sum.inr "name") = some n' ∧ valV (put part v n g d k) (Sum.inr "greatest") = some g' ∧ valV (put part v n g d k) (Sum.inr "default") = some d' ∧ valV (put part v n g d k) (Sum.inr "number") = some k' := by
  have h1 : ¬ ((Sum.inr "name" : Key) = (Sum.inr "greatest" : Key)) := by decide +kernel
  have h2 : ¬ ((Sum.inr "name" : Key) = (Sum.inr "default" : Key)) := by decide +kernel
  have h3 : ¬ ((Sum.inr "name" : Key) = (Sum.inr "number" : Key)) := by decide +kernel
  have h4 : ¬ ((Sum.inr "greatest" : Key) = (Sum.inr "default" : Key)) := by decide +kernel
  have h5 : ¬ ((Sum.inr "greatest" : Key) = (Sum.inr "number" : Key)) := by decide +kernel
  have h6 : ¬ ((Sum.inr "default" : Key) = (Sum.inr "number" : Key)) := by decide +kernel
  have k1 : ¬ ((Sum.inr "greatest" : Key) = (Sum.inr "name" : Key)) := by decide +kernel
  have k2 : ¬ ((Sum.inr "default" : Key) = (Sum.inr "name" : Key)) := by decide +kernel
  have k3 : ¬ ((Sum.inr "number" : Key) = (Sum.inr "name" : Key)) := by decide +kernel
  have k4 : ¬ ((Sum.inr "default" : Key) = (Sum.inr "greatest" : Key)) := by decide +kernel
  have k5 : ¬ ((Sum.inr "number" : Key) = (Sum.inr "greatest" : Key)) := by decide +kernel
  have k6 : ¬ ((Sum.inr "number" : Key) = (Sum.inr "default" : Key)) := by decide +kernel
  have g1 : ¬ (("greatest" : Str) = "name") := by decide +kernel
  have g2 : ¬ (("default" : Str) = "name") := by decide +kernel
  have g3 : ¬ (("default" : Str) = "greatest") := by decide +kernel
  have g4 : ¬ (("number" : Str) = "name") := by decide +kernel
  have g5 : ¬ (("number" : Str) = "greatest") := by decide +kernel
  have g6 : ¬ (("number" : Str) = "default") := by decide +kernel
  have e := f.eq
  rcases f.part_ with rfl | rfl | rfl | rfl
  · rw [if_pos rfl] at e
    cases e
    simp [put, putK, valV, h1, h2, h3, h4, h5, h6, k1, k2, k3, k4, k5, k6]
  · rw [if_neg g1, if_pos rfl] at e
    cases e
    simp [put, putK, valV, h1, h2, h3, h4, h5, h6, k1, k2, k3, k4, k5, k6]
  · rw [if_neg g2, if_neg g3, if_pos rfl] at e
    cases e
    simp [put, putK, valV, h1, h2, h3, h4, h5, h6, k1, k2, k3, k4, k5, k6]
  · rw [if_neg g4, if_neg g5, if_neg g6] at e
    cases e
    simp [put, putK, valV, h1, h2, h3, h4, h5, h6, k1, k2, k3, k4, k5, k6]
/-- Column(name, greatest, default, number=..) -/
theorem kbinds_Col (T : Tx K mg) {fd : FuncData} (F : FunD K "__init__" "Column.__init__" (defArgs s_Column___init__) (defBody s_Column___init__) (defScope s_Column___init__) (d_Column___init__.dvs K) (d_Column___init__.kws K) (He.ma K (He.ga K "Column") "__init__") fd) :
    ∃ its mv : List Value, KBn K fd ["self", "name", "greatest", "default", "number"] 4 ["number"] (fun us ws => us ++ ws) (fun vs zs => vs ++ zs) := by
  have h := F.kbinds (ps := ["self", "name", "greatest", "default", "number"]) 4 ["number"] [] (fun us its mv ws => us ++ ws) (by intro z; cases z) (by intro z; cases z) (by intro q hq; cases hq) (fun r1 _ _ r4 => r1.append r4) (fun TT D doc pm an cdv ct us its mv ws h1 h2 h3 h4 => ?_)
  · exact h
  · match us, h1, its, h2, mv, h3, ws, h4 with
    | [u0, u1, u2, u3], _, [i0], _, [], _, [w0], _ => exact ⟨_, rfl, rfl⟩
def sp_changed (K : PySem.W.Frag) : Sp := fun vs H Q _ => ∃ (c : Addr) (part n n' : Str) (g k g' k' : Int) (d d' v : V), vs = [.ref c, .str part, v] ∧ ColAt K H c n g d k ∧ Four part v (.str n) (.int g) d (.int k) (.str n') (.int g') d' (.int k') ∧
  isNm (.str n') = true ∧ isGr (.int g') = true ∧ isIn g' d' = true ∧ 0 ≤ k' ∧ ∀ (a : Addr) (H' : Hp), H a = none → Same H H' → ColAt K H' a n' g' d' k' → Q (.ref a) H'
theorem ok_changed (T : Tx K mg) : ∃ fd, FnOk P w K mg base CX0 6 (He.ma K (He.ga K "Column") "changed") fd ["self", "part", "value"] (sp_changed K) ∧ Binds K fd ["self", "part", "value"] [] := by
  obtain ⟨fdI, GI, FI⟩ := ok_Col_init (P := P) (w := w) (base := base) T
  obtain ⟨_, _, kb⟩ := kbinds_Col T FI
  obtain ⟨fd, F⟩ := fd_Column_changed T
  have cl := cl_Column T
  refine ⟨fd, F.ok (CX := CX0) sc_Column_changed (fun vs H Q E h => ?_) (fun cdv A outer s H vs Q E hr h => ?_), F.bindsN fun _ _ _ _ _ _ us hl => match us, hl with | [_, _, _], _ => rfl⟩
  · obtain ⟨c, part, n, n', g, k, g', k', d, d', v, rfl, _⟩ := h
    rfl
  suffices hh : ∃ t, PSs (cxOf CX0 P w K mg base ["self", "part", "value", "parts"] "Column.changed" (defScope s_Column_changed) (He.ma K (He.ga K "Column") "changed") cdv A outer s H E).nox (defBody s_Column_changed) t ∧
      t { nx := fun _ H' => Q .non H', rt := Q } (start ["self", "part", "value", "parts"] vs) H by
    obtain ⟨t, h1, h2⟩ := hh
    exact ⟨t, h1.nox, h2⟩
  obtain ⟨c, part, n, n', g, k, g', k', d, d', v, rfl, ⟨dx, hc⟩, f4, hn, hg, hd, hk, kk⟩ := h
  have nd := sc_Column_changed.nd
  have hu := hu_of hr
  have CW := (ok_is_word (P := P) (w := w) (base := base) T).up (show 1 ≤ 5 by decide)
  refine ⟨_, pss_cons (ps_if (pt_not (pt_val (pcall CW hr (pa_cons (pv 1) (pa_cons (pe_glob (v := .ref (He.ga K "PARTS")) (by rfl) (mg_PARTS T) rfl) pa_nil))))) (pss_one ps_never) pss_nil)
    (pss_cons (ps_set (i := 3) nd rfl (Or.inl rfl) (pe_disp (pps_cons pe_str (pe_fld (pv 0) rfl) (pps_cons pe_str (pe_fld (pv 0) rfl) (pps_cons pe_str (pe_fld (pv 0) rfl) (pps_cons pe_str (pe_fld (pv 0) rfl) pps_nil)))) (by rfl) (by rfl) (fun z => by cases z) (by decide)))
    (pss_cons (ps_dput hu (pv 3) (pv 1) (pv 2) rfl)
    (pss_one (ps_ret (pe_makeK (mk_Column T) GI hr (by rfl) (mg_Column T) kb pass0 (pa_cons (pe_dget hu (pv 3) pe_str (fun _ _ => rfl)) (pa_cons (pe_dget hu (pv 3) pe_str (fun _ _ => rfl)) (pa_cons (pe_dget hu (pv 3) pe_str (fun _ _ => rfl)) pa_nil)))
      (pk_cons (pe_dget hu (pv 3) pe_str (fun _ _ => rfl)) pk_nil)))))), ?_⟩
  have hP : SqT K H (He.ga K "PARTS") [.str "name", .str "greatest", .str "default", .str "number"] := He.tupB_ok (ex_PARTS T) H
  have hin : wordV (.str part) [.str "name", .str "greatest", .str "default", .str "number"] = true := by
    rcases f4.part_ with rfl | rfl | rfl | rfl <;> decide +kernel
  refine ⟨_, rfl, .str part, _, _, _, rfl, .base (.str part), hP, rfl, _, rfl, ?_⟩
  rw [hin]
  refine iteF (nxt ?_)
  refine fun p np => ?_
  have hc1 : ∀ o, upd H p o c = some (.ins (He.ga K "Column") dx (colFs n g d k)) := fun o => same_new np _ _ hc
  refine ⟨_, rfl, c, _, dx, _, _, rfl, hc1 _, cl, na_Column_name T, colFs_name, _, rfl, c, _, dx, _, _, rfl, hc1 _, cl, na_Column_greatest T, colFs_greatest, _, rfl, c, _, dx, _, _, rfl, hc1 _, cl, na_Column_default T, colFs_default,
    _, rfl, c, _, dx, _, _, rfl, hc1 _, cl, na_Column_number T, colFs_number, upd_same, [(Sum.inr "name", .str n), (Sum.inr "greatest", .int g), (Sum.inr "default", d), (Sum.inr "number", .int k)], rfl, (by show 4 ≤ 15; decide), ?_⟩
  rw [upd_upd, merge4]
  refine ⟨_, rfl, _, rfl, _, rfl, p, _, rfl, DPut.k (k := Sum.inr part) upd_same (by show 4 < sizeLine; decide), ?_⟩
  rw [upd_upd]
  obtain ⟨q1, q2, q3, q4⟩ := put_get f4
  have hp : upd H p (.dK (put part v (.str n) (.int g) d (.int k))) p = some (.dK (put part v (.str n) (.int g) d (.int k))) := upd_same
  have s1 : Same H (upd H p (.dK (put part v (.str n) (.int g) d (.int k)))) := same_new np
  have g1 : DGet (upd H p (.dK (put part v (.str n) (.int g) d (.int k)))) p (.str "name") (some (.str n')) := by
    rw [← q1]
    exact DGet.k (k := Sum.inr "name") hp
  have g2 : DGet (upd H p (.dK (put part v (.str n) (.int g) d (.int k)))) p (.str "greatest") (some (.int g')) := by
    rw [← q2]
    exact DGet.k (k := Sum.inr "greatest") hp
  have g3 : DGet (upd H p (.dK (put part v (.str n) (.int g) d (.int k)))) p (.str "default") (some d') := by
    rw [← q3]
    exact DGet.k (k := Sum.inr "default") hp
  have g4 : DGet (upd H p (.dK (put part v (.str n) (.int g) d (.int k)))) p (.str "number") (some (.int k')) := by
    rw [← q4]
    exact DGet.k (k := Sum.inr "number") hp
  refine ⟨_, rfl, p, _, rfl, g1, _, rfl, p, _, rfl, g2, _, rfl, p, _, rfl, g3, _, rfl, p, _, rfl, g4, rfl, rfl, fun x dx2 nx ndx ndc => ?_⟩
  refine ⟨x, dx2, n', g', k', d', rfl, upd_same, hn, hg, hd, hk, fun H4 hc4 k4 => ⟨rfl, ?_⟩⟩
  exact kk x H4 (s1.free nx) (fun b o e => k4 b o (ne_of_none (s1 _ _ e) nx) (by rw [upd_ne (ne_of_none (s1 _ _ e) nx), upd_ne (ne_of_none (s1 _ _ e) ndx)]; exact s1 _ _ e)) hc4
-- needs: Column.__init__
/-! columns of a list, as data -/
structure Col where
  name : Str
  top : Int
  dflt : V
  num : Int
/-- the columns at the addresses as -/
inductive Cols (K : PySem.W.Frag) (H : Hp) : List Addr → List Col → Prop
  | nil : Cols K H [] []
  | cons {a : Addr} {as : List Addr} {c : Col} {cs : List Col} : ColAt K H a c.name c.top c.dflt c.num → Cols K H as cs → Cols K H (a :: as) (c :: cs)
theorem ColAt.keep {K : PySem.W.Frag} {H H' : Hp} {a : Addr} {n : Str} {g k : Int} {d : V} (s : Same H H') (h : ColAt K H a n g d k) : ColAt K H' a n g d k := h.imp fun _ e => s _ _ e
theorem Cols.keep {K : PySem.W.Frag} {H H' : Hp} (s : Same H H') : ∀ {as : List Addr} {cs : List Col}, Cols K H as cs → Cols K H' as cs
  | _, _, .nil => .nil
  | _, _, .cons h t => .cons (h.keep s) (t.keep s)
theorem Cols.len {K : PySem.W.Frag} {H : Hp} : ∀ {as : List Addr} {cs : List Col}, Cols K H as cs → as.length = cs.length
  | _, _, .nil => rfl
  | _, _, .cons _ t => congrArg Nat.succ t.len
theorem Cols.at_ {K : PySem.W.Frag} {H : Hp} : ∀ {as : List Addr} {cs : List Col} {i : Nat} {a : Addr}, Cols K H as cs → as[i]? = some a → ∃ c, cs[i]? = some c ∧ ColAt K H a c.name c.top c.dflt c.num
  | _, _, _, _, .nil, e => by simp at e
  | _, _, 0, _, .cons h t, e => by
    simp at e
    subst e
    exact ⟨_, rfl, h⟩
  | _, _, i + 1, a, .cons h t, e => by
    obtain ⟨c, h1, h2⟩ := Cols.at_ (i := i) (a := a) t (by simpa using e)
    exact ⟨c, by simpa using h1, h2⟩
def isN (n : Str) (c : Col) : Bool := decide (c.name = n)

/-! column_named; the columns of a list, as data -/
/-- what column_named gives: None, or the first of its name -/
def Named (as : List Addr) (cs : List Col) (n : Str) (v : V) : Prop := (v = .non ∧ cs.find? (isN n) = none) ∨ ∃ (i : Nat) (a : Addr) (c : Col), v = .ref a ∧ as[i]? = some a ∧ cs[i]? = some c ∧ cs.find? (isN n) = some c
def sp_column_named (K : PySem.W.Frag) : Sp := fun vs H Q _ => ∃ (l : Addr) (as : List Addr) (cs : List Col) (n : Str), vs = [.ref l, .str n] ∧ (SqL K H l (as.map V.ref) ∨ SqT K H l (as.map V.ref)) ∧ Cols K H as cs ∧ ∀ v, Named as cs n v → Q v H
theorem find_pre {cs : List Col} {i : Nat} {c : Col} {n : Str} (h : cs[i]? = some c) (hp : (cs.take i).find? (isN n) = none) : (cs.take (i + 1)).find? (isN n) = if isN n c = true then some c else none := by
  rw [List.take_add_one, h, List.find?_append, hp]
  show (Option.none).or _ = _
  rw [Option.none_or]
  show (match isN n c with | true => some c | false => none) = _
  cases isN n c <;> rfl
theorem find_take {cs : List Col} {i : Nat} {c : Col} {n : Str} (h : cs[i]? = some c) (hp : (cs.take i).find? (isN n) = none) (hc : isN n c = true) : cs.find? (isN n) = some c := by
  have e : cs = cs.take (i + 1) ++ cs.drop (i + 1) := (List.take_append_drop _ _).symm
  rw [e, List.find?_append, find_pre h hp, if_pos hc]
  rfl
theorem ok_column_named (T : Tx K mg) : Callee P w K mg base CX0 1 "column_named" ["columns", "name"] [] (sp_column_named K) := by
  refine mkCallee (fd_column_named T) (mg_column_named T) sc_column_named (fun _ _ _ _ _ _ us hl => match us, hl with | [_, _], _ => rfl) (fun vs H Q E h => ?_) (fun cdv A outer s H vs Q E hr h => ?_)
  · obtain ⟨l, as, cs, n, rfl, _⟩ := h
    rfl
  · obtain ⟨l, as, cs, n, rfl, hl, hc, k⟩ := h
    have nd := sc_column_named.nd
    have turn : ∀ (i : Nat) (x : V) (y : Option V), (as.map V.ref)[i]? = some x → (cs.take i).find? (isN n) = none → ∃ (a : Addr) (c : Col) (dx : Addr), x = .ref a ∧ as[i]? = some a ∧ cs[i]? = some c ∧ H a = some (.ins (He.ga K "Column") dx (colFs c.name c.top c.dflt c.num)) := fun i x y hx hp => by
      rw [List.getElem?_map] at hx
      cases ha : as[i]? with
      | none =>
        rw [ha] at hx
        cases hx
      | some a =>
        rw [ha] at hx
        obtain ⟨c, h1, dx, h2⟩ := hc.at_ ha
        exact ⟨a, c, dx, (Option.some.inj hx).symm, rfl, h1, h2⟩
    have fin : (cs.take as.length).find? (isN n) = none → Q .non H := fun h => by
      rw [hc.len, List.take_length] at h
      exact k _ (.inl ⟨rfl, h⟩)
    rcases hl with hl | hl
    · refine ⟨_, pss_cons (ps_if (pt_not (pt_val (pe_callB call_isi (by rfl) (fr_isinstance T) (by decide +kernel) (pa_cons (pv 1) (pa_cons (pe_bltn (v := .ty "str") (by rfl) (fr_str T) (by decide +kernel) rfl) pa_nil))))) (pss_one (ps_ret pe_non)) pss_nil)
        (pss_cons (ps_for PassesOwn.never rfl (pi_list (pv 0)) (pg_name (i := 2) nd rfl (Or.inl rfl)) (pss_one (ps_if (pt_cmpR op_eq (pe_fld (pv 2) rfl) (pv 1) (nomark _)) (pss_one (ps_ret (pv 2))) pss_nil))) (pss_one (ps_ret pe_non))), ?_⟩
      refine ⟨_, rfl, .str n, .ty "str", _, _, true, rfl, .ty "str", .base (.str n), kit_ty (by decide +kernel), _, rfl, iteF ⟨_, rfl, l, rfl, ⟨_, hl⟩, ?_⟩⟩
      refine for_list (xs := as.map V.ref) (fun i σ H' => H' = H ∧ (cs.take i).find? (isN n) = none ∧ ∃ y, σ = [some (.ref l), some (.str n), y]) ⟨rfl, rfl, _, rfl⟩ (fun i σ H' _ h => by rw [h.1]; exact hl) ?_ ?_
      · rintro i x σ H' hx ⟨rfl, hp, y, rfl⟩
        obtain ⟨a, c, dx, rfl, ha, hci, hat⟩ := turn i x y hx hp
        refine ⟨_, rfl, a, _, dx, _, _, rfl, hat, cl_Column T, na_Column_name T, colFs_name, _, rfl, rfl, _, rfl, ?_⟩
        by_cases e : c.name = n
        · rw [decide_eq_true (show V.str c.name = V.str n by rw [e])]
          exact iteT ⟨_, rfl, k _ (.inr ⟨i, a, c, rfl, ha, hci, find_take hci hp (decide_eq_true e)⟩)⟩
        · rw [decide_eq_false (fun z => e (V.str.inj z))]
          exact iteF ⟨rfl, by rw [find_pre hci hp, if_neg (by rw [show isN n c = false from decide_eq_false e]; decide)], _, rfl⟩
      · rintro σ H' ⟨rfl, hp, y, rfl⟩
        rw [List.length_map] at hp
        exact fin hp
    · refine ⟨_, pss_cons (ps_if (pt_not (pt_val (pe_callB call_isi (by rfl) (fr_isinstance T) (by decide +kernel) (pa_cons (pv 1) (pa_cons (pe_bltn (v := .ty "str") (by rfl) (fr_str T) (by decide +kernel) rfl) pa_nil))))) (pss_one (ps_ret pe_non)) pss_nil)
        (pss_cons (ps_for PassesOwn.never rfl (pi_tup (pv 0)) (pg_name (i := 2) nd rfl (Or.inl rfl)) (pss_one (ps_if (pt_cmpR op_eq (pe_fld (pv 2) rfl) (pv 1) (nomark _)) (pss_one (ps_ret (pv 2))) pss_nil))) (pss_one (ps_ret pe_non))), ?_⟩
      refine ⟨_, rfl, .str n, .ty "str", _, _, true, rfl, .ty "str", .base (.str n), kit_ty (by decide +kernel), _, rfl, iteF ⟨_, rfl, l, rfl, ⟨_, hl⟩, ?_⟩⟩
      refine for_tup (xs := as.map V.ref) (fun i σ H' => H' = H ∧ (cs.take i).find? (isN n) = none ∧ ∃ y, σ = [some (.ref l), some (.str n), y]) ⟨rfl, rfl, _, rfl⟩ (fun i σ H' _ h => by rw [h.1]; exact hl) ?_ ?_
      · rintro i x σ H' hx ⟨rfl, hp, y, rfl⟩
        obtain ⟨a, c, dx, rfl, ha, hci, hat⟩ := turn i x y hx hp
        refine ⟨_, rfl, a, _, dx, _, _, rfl, hat, cl_Column T, na_Column_name T, colFs_name, _, rfl, rfl, _, rfl, ?_⟩
        by_cases e : c.name = n
        · rw [decide_eq_true (show V.str c.name = V.str n by rw [e])]
          exact iteT ⟨_, rfl, k _ (.inr ⟨i, a, c, rfl, ha, hci, find_take hci hp (decide_eq_true e)⟩)⟩
        · rw [decide_eq_false (fun z => e (V.str.inj z))]
          exact iteF ⟨rfl, by rw [find_pre hci hp, if_neg (by rw [show isN n c = false from decide_eq_false e]; decide)], _, rfl⟩
      · rintro σ H' ⟨rfl, hp, y, rfl⟩
        rw [List.length_map] at hp
        exact fin hp
/-! the changes as data -/
inductive Ch where
  | add (n : Str) (g : Int) (d : V)
  | drop (n : Str)
  | rename (n m : Str)
  | dflt (n : Str) (v : V)
  | great (n : Str) (g : Int) (way : Str)
  | fill (n : Str) (i : Int)
def Ch.toV : Ch → List V
  | .add n g d => [.str "add", .str n, .int g, d]
  | .drop n => [.str "drop", .str n]
  | .rename n m => [.str "rename", .str n, .str m]
  | .dflt n v => [.str "default", .str n, v]
  | .great n g way => [.str "greatest", .str n, .int g, .str way]
  | .fill n i => [.str "fill", .str n, .int i]
def isWy (z : Str) : Bool := decide (z = "cut") || (decide (z = "none") || decide (z = "refuse"))
/-- a change by its form -/
def Ch.fits : Ch → Bool
  | .add n g d => isNm (.str n) && (isGr (.int g) && isVal d)
  | .drop n => isNm (.str n)
  | .rename n m => isNm (.str n) && isNm (.str m)
  | .dflt n v => isNm (.str n) && isVal v
  | .great n g way => isNm (.str n) && (isGr (.int g) && isWy way)
  | .fill n i => isNm (.str n) && decide (0 ≤ i)
def Ch.name : Ch → Str
  | .add n _ _ => n
  | .drop n => n
  | .rename n _ => n
  | .dflt n _ => n
  | .great n _ _ => n
  | .fill n _ => n
def Ch.kind : Ch → Str
  | .add _ _ _ => "add"
  | .drop _ => "drop"
  | .rename _ _ => "rename"
  | .dflt _ _ => "default"
  | .great _ _ _ => "greatest"
  | .fill _ _ => "fill"
theorem Ch.at0 (c : Ch) : atI c.toV 0 = some (.str c.kind) := by cases c <;> rfl
theorem Ch.at1 (c : Ch) : atI c.toV 1 = some (.str c.name) := by cases c <;> rfl
/-! is_way -/
def sp_is_way : Sp := fun vs H Q _ => ∃ z : Str, vs = [.str z] ∧ isWy z = true ∧ Q (.bl true) H
theorem ok_is_way (T : Tx K mg) : Callee P w K mg base CX0 2 "is_way" ["value"] [] sp_is_way := by
  have C1 := ok_is_word (P := P) (w := w) (base := base) T
  refine mkCallee (fd_is_way T) (mg_is_way T) sc_is_way (fun _ _ _ _ _ _ us hl => match us, hl with | [_], _ => rfl) (fun vs H Q E h => ?_) (fun cdv A outer s H vs Q E hr h => ?_)
  · obtain ⟨z, rfl, _⟩ := h
    rfl
  · obtain ⟨z, rfl, hz, k⟩ := h
    refine ⟨_, pss_one (ps_ret (pcall C1 hr (pa_cons (pv 0) (pa_cons (pe_glob (v := .ref (He.ga K "WAYS")) (by rfl) (mg_WAYS T) rfl) pa_nil)))), ?_⟩
    have hw : SqT K H (He.ga K "WAYS") [.str "cut", .str "none", .str "refuse"] := He.tupB_ok (ex_WAYS T) H
    refine ⟨_, rfl, .str z, _, _, _, rfl, .base (.str z), hw, rfl, ?_⟩
    have e : wordV (.str z) [.str "cut", .str "none", .str "refuse"] = true := by
      have h' : (decide (z = "cut") || (decide (z = "none") || decide (z = "refuse"))) = true := hz
      show (("cut" : Str) == z || (("none" : Str) == z || (("refuse" : Str) == z || false))) = true
      rw [Bool.or_eq_true, Bool.or_eq_true, decide_eq_true_iff, decide_eq_true_iff, decide_eq_true_iff] at h'
      rcases h' with rfl | rfl | rfl <;> simp
    rw [e]
    exact k
/-! is_single_part, at what fits -/
def sp_is_single_part : Sp := fun vs H Q _ => ∃ (kd : Str) (x : V), vs = [.str kd, x] ∧ ((kd = "rename" ∧ isNm x = true) ∨ (kd = "default" ∧ isVal x = true) ∨ (kd = "fill" ∧ ∃ i, x = .int i ∧ 0 ≤ i)) ∧ ∀ H', Same H H' → Q (.bl true) H'
theorem ok_is_single_part (T : Tx K mg) : Callee P w K mg base CX0 3 "is_single_part" ["kind", "part"] [] sp_is_single_part := by
  have C1 := (ok_is_name (P := P) (w := w) (base := base) T).up (show 1 ≤ 2 by decide)
  have C2 := ok_is_value (P := P) (w := w) (base := base) T
  have C3 := (ok_is_whole (P := P) (w := w) (base := base) T).up (show 1 ≤ 2 by decide)
  refine mkCallee (fd_is_single_part T) (mg_is_single_part T) sc_is_single_part (fun _ _ _ _ _ _ us hl => match us, hl with | [_, _], _ => rfl) (fun vs H Q E h => ?_) (fun cdv A outer s H vs Q E hr h => ?_)
  · obtain ⟨kd, x, rfl, _⟩ := h
    rfl
  · obtain ⟨kd, x, rfl, hx, k⟩ := h
    refine ⟨_, pss_cons (ps_if (pt_cmpR op_eq (pv 0) pe_str (nomark _)) (pss_one (ps_ret (pcall C1 hr (pa_cons (pv 1) pa_nil)))) pss_nil)
      (pss_cons (ps_if (pt_cmpR op_eq (pv 0) pe_str (nomark _)) (pss_one (ps_ret (pcall C2 hr (pa_cons (pv 1) pa_nil)))) pss_nil)
      (pss_one (ps_ret (pe_and (pcall C3 hr (pa_cons (pv 1) pa_nil)) (pe_one (pe_cmpR op_ge (pv 1) pe_int (nomark _))))))), ?_⟩
    refine ⟨_, rfl, rfl, _, rfl, ?_⟩
    rcases hx with ⟨rfl, hx⟩ | ⟨rfl, hx⟩ | ⟨rfl, i, rfl, hi⟩
    · rw [decide_eq_true rfl]
      cases x with
      | str z => exact iteT ⟨_, rfl, .str z, _, rfl, .base (.str z), fun m e => by cases e; exact nm_len hx, fun H' s' => by rw [hx]; exact k H' s'⟩
      | _ => cases hx
    · rw [decide_eq_false (by decide +kernel)]
      refine iteF ⟨_, rfl, rfl, _, rfl, ?_⟩
      rw [decide_eq_true rfl]
      cases x with
      | non => exact iteT ⟨_, rfl, .non, _, rfl, .base .non, k H (Same.refl _)⟩
      | int i => exact iteT ⟨_, rfl, .int i, _, rfl, .base (.int i), by rw [hx]; exact k H (Same.refl _)⟩
      | _ => cases hx
    · rw [decide_eq_false (by decide +kernel)]
      refine iteF ⟨_, rfl, rfl, _, rfl, ?_⟩
      rw [decide_eq_false (by decide +kernel)]
      refine iteF ⟨_, rfl, .int i, _, rfl, .base (.int i), _, rfl, iteT ⟨_, rfl, _, _, rfl, rfl, ?_⟩⟩
      show Q (.bl (decide (0 ≤ i))) H
      rw [decide_eq_true hi]
      exact k H (Same.refl _)
/-! has_parts, at what fits: the parts behind the first name -/
def sp_has_parts (K : PySem.W.Frag) : Sp := fun vs H Q _ => ∃ (t : Addr) (c : Ch), vs = [.str c.kind, .ref t] ∧ SqT K H t (c.toV.drop 2) ∧ c.fits = true ∧ ∀ H', Same H H' → Q (.bl true) H'
theorem ok_has_parts (T : Tx K mg) : Callee P w K mg base CX0 4 "has_parts" ["kind", "parts"] [] (sp_has_parts K) := by
  have C1 := ok_is_single_part (P := P) (w := w) (base := base) T
  have C2 := (ok_is_greatest (P := P) (w := w) (base := base) T).up (show 2 ≤ 3 by decide)
  have C3 := (ok_is_value (P := P) (w := w) (base := base) T).up (show 2 ≤ 3 by decide)
  have C4 := (ok_is_way (P := P) (w := w) (base := base) T).up (show 2 ≤ 3 by decide)
  refine mkCallee (fd_has_parts T) (mg_has_parts T) sc_has_parts (fun _ _ _ _ _ _ us hl => match us, hl with | [_, _], _ => rfl) (fun vs H Q E h => ?_) (fun cdv A outer s H vs Q E hr h => ?_)
  · obtain ⟨t, c, rfl, _⟩ := h
    rfl
  · obtain ⟨t, c, rfl, ht, hf, k⟩ := h
    have gl : mg "len" = none := fr_len T
    refine ⟨_, pss_cons (ps_if (pt_cmpR op_eq (pv 0) pe_str (nomark _)) (pss_one (ps_ret (pe_cmpR op_eq (pe_callB call_len (by rfl) gl PySem.boot_len (pa_cons (pv 1) pa_nil)) pe_int (nomark _)))) pss_nil)
      (pss_cons (ps_if (pt_cmpR op_in_seq (pv 0) (pe_tup (pa_cons pe_str (pa_cons pe_str (pa_cons pe_str pa_nil)))) (by rfl)) (pss_one (ps_ret (pe_and (pe_cmpR op_eq (pe_callB call_len (by rfl) gl PySem.boot_len (pa_cons (pv 1) pa_nil)) pe_int (nomark _))
          (pe_one (pcall C1 hr (pa_cons (pv 0) (pa_cons (pe_ix ix_tup (pv 1) pe_int (fun _ _ => rfl)) pa_nil))))))) pss_nil)
      (pss_cons (ps_if (pt_cmpR op_eq (pv 0) pe_str (nomark _)) (pss_one (ps_ret (pe_and (pe_cmpR op_eq (pe_callB call_len (by rfl) gl PySem.boot_len (pa_cons (pv 1) pa_nil)) pe_int (nomark _))
          (pe_and (pcall C2 hr (pa_cons (pe_ix ix_tup (pv 1) pe_int (fun _ _ => rfl)) pa_nil)) (pe_one (pcall C3 hr (pa_cons (pe_ix ix_tup (pv 1) pe_int (fun _ _ => rfl)) pa_nil))))))) pss_nil)
      (pss_cons (ps_if (pt_cmpR op_eq (pv 0) pe_str (nomark _)) (pss_one (ps_ret (pe_and (pe_cmpR op_eq (pe_callB call_len (by rfl) gl PySem.boot_len (pa_cons (pv 1) pa_nil)) pe_int (nomark _))
          (pe_and (pcall C2 hr (pa_cons (pe_ix ix_tup (pv 1) pe_int (fun _ _ => rfl)) pa_nil)) (pe_one (pcall C4 hr (pa_cons (pe_ix ix_tup (pv 1) pe_int (fun _ _ => rfl)) pa_nil))))))) pss_nil)
      (pss_one (ps_ret pe_bl))))), ?_⟩
    cases c with
    | drop n =>
      refine ⟨_, rfl, rfl, _, rfl, iteT ⟨_, rfl, _, 0, rfl, .inr ⟨_, ht, rfl⟩, rfl, ?_⟩⟩
      exact k H (Same.refl _)
    | rename n m =>
      have hf' : (isNm (.str n) && isNm (.str m)) = true := hf
      rw [Bool.and_eq_true] at hf'
      refine ⟨_, rfl, rfl, _, rfl, ?_⟩
      refine iteD (nes (show ("rename" : Str) ≠ "drop" by decide +kernel)) ⟨_, rfl, (by show 3 ≤ sizeLine; decide), fun t2 nt2 => ⟨t2, _, rfl, .inr (sqT_of upd_same), rfl, rfl, _, rfl, iteT ?_⟩⟩
      have s2 := same_new (o := .tup [V.str "rename", .str "default", .str "fill"]) nt2
      refine ⟨_, rfl, _, 1, rfl, .inr ⟨_, same_tup s2 ht, rfl⟩, rfl, _, rfl, iteT ⟨_, rfl, _, rfl, t, _, 0, _, rfl, rfl, same_tup s2 ht, rfl, _, _, rfl, .inl ⟨rfl, hf'.2⟩, fun H' s' => k H' (s2.trans s')⟩⟩
    | dflt n v =>
      have hf' : (isNm (.str n) && isVal v) = true := hf
      rw [Bool.and_eq_true] at hf'
      refine ⟨_, rfl, rfl, _, rfl, ?_⟩
      refine iteD (nes (show ("default" : Str) ≠ "drop" by decide +kernel)) ⟨_, rfl, (by show 3 ≤ sizeLine; decide), fun t2 nt2 => ⟨t2, _, rfl, .inr (sqT_of upd_same), rfl, rfl, _, rfl, iteT ?_⟩⟩
      have s2 := same_new (o := .tup [V.str "rename", .str "default", .str "fill"]) nt2
      refine ⟨_, rfl, _, 1, rfl, .inr ⟨_, same_tup s2 ht, rfl⟩, rfl, _, rfl, iteT ⟨_, rfl, _, rfl, t, _, 0, _, rfl, rfl, same_tup s2 ht, rfl, _, _, rfl, .inr (.inl ⟨rfl, hf'.2⟩), fun H' s' => k H' (s2.trans s')⟩⟩
    | fill n i =>
      have hf' : (isNm (.str n) && decide (0 ≤ i)) = true := hf
      rw [Bool.and_eq_true] at hf'
      refine ⟨_, rfl, rfl, _, rfl, ?_⟩
      refine iteD (nes (show ("fill" : Str) ≠ "drop" by decide +kernel)) ⟨_, rfl, (by show 3 ≤ sizeLine; decide), fun t2 nt2 => ⟨t2, _, rfl, .inr (sqT_of upd_same), rfl, rfl, _, rfl, iteT ?_⟩⟩
      have s2 := same_new (o := .tup [V.str "rename", .str "default", .str "fill"]) nt2
      refine ⟨_, rfl, _, 1, rfl, .inr ⟨_, same_tup s2 ht, rfl⟩, rfl, _, rfl, iteT ⟨_, rfl, _, rfl, t, _, 0, _, rfl, rfl, same_tup s2 ht, rfl, _, _, rfl, .inr (.inr ⟨rfl, i, rfl, of_decide_eq_true hf'.2⟩), fun H' s' => k H' (s2.trans s')⟩⟩
    | add n g d =>
      have hf' : (isNm (.str n) && (isGr (.int g) && isVal d)) = true := hf
      rw [Bool.and_eq_true, Bool.and_eq_true] at hf'
      refine ⟨_, rfl, rfl, _, rfl, ?_⟩
      refine iteD (nes (show ("add" : Str) ≠ "drop" by decide +kernel)) ⟨_, rfl, (by show 3 ≤ sizeLine; decide), fun t2 nt2 => ⟨t2, _, rfl, .inr (sqT_of upd_same), rfl, rfl, _, rfl, iteF ?_⟩⟩
      have s2 := same_new (o := .tup [V.str "rename", .str "default", .str "fill"]) nt2
      refine ⟨_, rfl, rfl, _, rfl, iteT ⟨_, rfl, _, 2, rfl, .inr ⟨_, same_tup s2 ht, rfl⟩, rfl, _, rfl, iteT ⟨_, rfl, t, _, 0, _, rfl, rfl, same_tup s2 ht, rfl, .int g, _, rfl, .base (.int g), _, rfl, ?_⟩⟩⟩
      rw [hf'.2.1]
      have td : ∃ ty, TyX K (upd H t2 (.tup [V.str "rename", .str "default", .str "fill"])) d (.type ty) := by
        cases d with
        | non => exact ⟨_, .base .non⟩
        | int i => exact ⟨_, .base (.int i)⟩
        | _ => cases hf'.2.2
      obtain ⟨ty, td⟩ := td
      refine iteT ⟨_, rfl, t, _, 1, _, rfl, rfl, same_tup s2 ht, rfl, d, ty, rfl, td, ?_⟩
      rw [hf'.2.2]
      exact k _ s2
    | great n g way =>
      have hf' : (isNm (.str n) && (isGr (.int g) && isWy way)) = true := hf
      rw [Bool.and_eq_true, Bool.and_eq_true] at hf'
      refine ⟨_, rfl, rfl, _, rfl, ?_⟩
      refine iteD (nes (show ("greatest" : Str) ≠ "drop" by decide +kernel)) ⟨_, rfl, (by show 3 ≤ sizeLine; decide), fun t2 nt2 => ⟨t2, _, rfl, .inr (sqT_of upd_same), rfl, rfl, _, rfl, iteF ?_⟩⟩
      have s2 := same_new (o := .tup [V.str "rename", .str "default", .str "fill"]) nt2
      refine ⟨_, rfl, rfl, _, rfl, ?_⟩
      refine iteD (nes (show ("greatest" : Str) ≠ "add" by decide +kernel)) ⟨_, rfl, rfl, _, rfl, iteT ⟨_, rfl, _, 2, rfl, .inr ⟨_, same_tup s2 ht, rfl⟩, rfl, _, rfl, iteT ⟨_, rfl, t, _, 0, _, rfl, rfl, same_tup s2 ht, rfl, .int g, _, rfl, .base (.int g), _, rfl, ?_⟩⟩⟩
      rw [hf'.2.1]
      exact iteT ⟨_, rfl, t, _, 1, _, rfl, rfl, same_tup s2 ht, rfl, way, rfl, hf'.2.2, k _ s2⟩
/-! is_change, at what fits -/
/-- a change stands at t -/
def ChAt (K : PySem.W.Frag) (H : Hp) (t : Addr) (c : Ch) : Prop := SqT K H t c.toV
theorem ChAt.keep {K : PySem.W.Frag} {H H' : Hp} {t : Addr} {c : Ch} (s : Same H H') (h : ChAt K H t c) : ChAt K H' t c := same_tup s h
theorem Ch.nm {c : Ch} (h : c.fits = true) : isNm (.str c.name) = true := by
  cases c <;> first | exact h | exact (Bool.and_eq_true_iff.mp h).1
theorem Ch.len (c : Ch) : 2 ≤ c.toV.length := by cases c <;> simp [Ch.toV]
theorem sqT_tup {K : PySem.W.Frag} {H : Hp} {a : Addr} {xs : List V} (h : SqT K H a xs) : TyX K H (.ref a) (.type "tuple") := by
  rcases h with (h | ⟨o, h⟩) | ⟨o, its, n, h, hc, _⟩
  · exact .base (.tup h)
  · exact .fTuple h
  · exact .kTuple h hc
def sp_is_change (K : PySem.W.Frag) : Sp := fun vs H Q _ => ∃ (t : Addr) (c : Ch), vs = [.ref t] ∧ ChAt K H t c ∧ c.fits = true ∧ ∀ H', Same H H' → Q (.bl true) H'
theorem six2 {n : Nat} (h : 2 ≤ n) : HT.sIx n 0 (some 2) = 2 := by
  have e := HT.sIx_nat n 0 2
  have e2 : ((2 : Nat) : Int) = 2 := rfl
  rw [e2] at e
  rw [e]
  omega
theorem cut2 (c : Ch) : cutV c.toV (some 2) none = c.toV.drop 2 := by
  have h := c.len
  unfold cutV
  rw [six2 h, HT.sIx_none]
  exact List.take_of_length_le (by rw [List.length_drop]; exact Nat.le_refl _)
theorem ok_is_change (T : Tx K mg) : Callee P w K mg base CX0 5 "is_change" ["value"] [] (sp_is_change K) := by
  have C1 := (ok_is_name (P := P) (w := w) (base := base) T).up (show 1 ≤ 4 by decide)
  have C2 := ok_has_parts (P := P) (w := w) (base := base) T
  refine mkCallee (fd_is_change T) (mg_is_change T) sc_is_change (fun _ _ _ _ _ _ us hl => match us, hl with | [_], _ => rfl) (fun vs H Q E h => ?_) (fun cdv A outer s H vs Q E hr h => ?_)
  · obtain ⟨t, c, rfl, _⟩ := h
    rfl
  · obtain ⟨t, c, rfl, ht, hf, k⟩ := h
    refine ⟨_, pss_cons (ps_if (PW.pt (pw_or (pt_not (pt_val (pe_callB call_isi (by rfl) (fr_isinstance T) (by decide +kernel) (pa_cons (pv 0) (pa_cons (pe_bltn (v := .ty "tuple") (by rfl) (fr_tuple T) (by decide +kernel) rfl) pa_nil)))))
        (pw_or1 (pt_cmpR op_lt (pe_callB call_len (by rfl) (fr_len T) PySem.boot_len (pa_cons (pv 0) pa_nil)) pe_int (nomark _))))) (pss_one (ps_ret pe_bl)) pss_nil)
      (pss_one (ps_ret (pe_and (pe_callB call_isi (by rfl) (fr_isinstance T) (by decide +kernel) (pa_cons (pe_ix ix_tup (pv 0) pe_int (fun _ _ => rfl)) (pa_cons (pe_bltn (v := .ty "str") (by rfl) (fr_str T) (by decide +kernel) rfl) pa_nil)))
        (pe_and (pcall C1 hr (pa_cons (pe_ix ix_tup (pv 0) pe_int (fun _ _ => rfl)) pa_nil)) (pe_one (pcall C2 hr (pa_cons (pe_ix ix_tup (pv 0) pe_int (fun _ _ => rfl)) (pa_cons (pe_slice sl_tup (pv 0) (po_some pe_int) po_none) pa_nil)))))))), ?_⟩
    have hl := c.len
    refine ⟨_, rfl, .ref t, .ty "tuple", _, _, true, rfl, .ty "tuple", sqT_tup ht, kit_ty (by decide +kernel), _, rfl, iteF ⟨_, rfl, _, c.toV.length, rfl, .inr ⟨_, ht, rfl⟩, _, _, rfl, rfl, _, rfl, iteD (by omega) ?_⟩⟩
    refine ⟨_, rfl, t, _, 0, _, rfl, rfl, ht, c.at0, .str c.kind, .ty "str", _, _, true, rfl, .ty "str", .base (.str _), kit_ty (by decide +kernel), _, rfl, iteT ?_⟩
    have hn := Ch.nm hf
    refine ⟨_, rfl, t, _, 1, _, rfl, rfl, ht, c.at1, .str c.name, _, rfl, .base (.str _), fun n e => by cases e; exact nm_len hn, fun H1 s1 => ⟨_, rfl, ?_⟩⟩
    rw [hn]
    refine iteT ⟨_, rfl, t, _, 0, _, rfl, rfl, same_tup s1 ht, c.at0, _, rfl, 2, rfl, t, _, rfl, same_tup s1 ht, fun z => by rw [six2 hl] at z; exact absurd z.1 (by decide), fun p np => ?_⟩
    rw [cut2]
    exact ⟨p, c, rfl, sqT_of upd_same, hf, fun H' s' => k H' ((s1.trans (same_new np)).trans s')⟩
/-! value_above -/
/-- what a value above becomes -/
def abv (g : Int) (way : Str) : V := if way = "cut" then .int g else if way = "none" then .non else .str "missing"
def sp_value_above (K : PySem.W.Frag) : Sp := fun vs H Q _ => ∃ (t : Addr) (n way : Str) (g : Int), vs = [.ref t] ∧ ChAt K H t (.great n g way) ∧ Q (abv g way) H
theorem ok_value_above (T : Tx K mg) : Callee P w K mg base CX0 1 "value_above" ["change"] [] (sp_value_above K) := by
  refine mkCallee (fd_value_above T) (mg_value_above T) sc_value_above (fun _ _ _ _ _ _ us hl => match us, hl with | [_], _ => rfl) (fun vs H Q E h => ?_) (fun cdv A outer s H vs Q E hr h => ?_)
  · obtain ⟨t, n, way, g, rfl, _⟩ := h
    rfl
  · obtain ⟨t, n, way, g, rfl, ht, k⟩ := h
    obtain ⟨tk, gM⟩ := ms_MISSING T
    refine ⟨_, pss_cons (ps_if (pt_cmpR op_eq (pe_ix ix_tup (pv 0) pe_int (fun _ _ => rfl)) pe_str (nomark _)) (pss_one (ps_ret (pe_ix ix_tup (pv 0) pe_int (fun _ _ => rfl)))) pss_nil)
      (pss_cons (ps_if (pt_cmpR op_eq (pe_ix ix_tup (pv 0) pe_int (fun _ _ => rfl)) pe_str (nomark _)) (pss_one (ps_ret pe_non)) pss_nil) (pss_one (ps_ret (pe_glob (v := .str "missing") (by rfl) gM ⟨_, rfl⟩)))), ?_⟩
    have i3 : atI (Ch.great n g way).toV 3 = some (.str way) := rfl
    have i2 : atI (Ch.great n g way).toV 2 = some (.int g) := rfl
    refine ⟨_, rfl, t, _, 3, _, rfl, rfl, ht, i3, rfl, _, rfl, ?_⟩
    unfold abv at k
    by_cases h1 : way = "cut"
    · rw [if_pos h1] at k
      subst h1
      exact iteDT rfl ⟨_, rfl, t, _, 2, _, rfl, rfl, ht, i2, k⟩
    · rw [if_neg h1] at k
      refine iteD (nes h1) ⟨_, rfl, t, _, 3, _, rfl, rfl, ht, i3, rfl, _, rfl, ?_⟩
      by_cases h2 : way = "none"
      · rw [if_pos h2] at k
        subst h2
        exact iteDT rfl k
      · rw [if_neg h2] at k
        exact iteD (nes h2) k
/-! None or an int -/
/-- None or an int -/
def valOk : V → Bool
  | .non => true
  | .int _ => true
  | _ => false

/-! changed_value -/
/-- what a value of a column of this name becomes -/
def chgV (n : Str) (c : Ch) (v : V) : V := if c.name = n then (match c, v with
  | .fill _ i, .non => .int i
  | .great _ g way, .int j => if g < j then abv g way else .int j
  | _, v => v) else v
def sp_changed_value (K : PySem.W.Frag) : Sp := fun vs H Q _ => ∃ (a t : Addr) (n : Str) (g k : Int) (d v : V) (c : Ch), vs = [.ref a, .ref t, v] ∧ ColAt K H a n g d k ∧ ChAt K H t c ∧ valOk v = true ∧ Q (chgV n c v) H
theorem ok_changed_value (T : Tx K mg) : Callee P w K mg base CX0 2 "changed_value" ["column", "change", "value"] [] (sp_changed_value K) := by
  have C1 := ok_value_above (P := P) (w := w) (base := base) T
  refine mkCallee (fd_changed_value T) (mg_changed_value T) sc_changed_value (fun _ _ _ _ _ _ us hl => match us, hl with | [_, _, _], _ => rfl) (fun vs H Q E h => ?_) (fun cdv A outer s H vs Q E hr h => ?_)
  · obtain ⟨a, t, n, g, k, d, v, c, rfl, _⟩ := h
    rfl
  · obtain ⟨a, t, n, g, k, d, v, c, rfl, ⟨dx, ha⟩, ht, hv, kk⟩ := h
    refine ⟨_, pss_cons (ps_if (pt_cmpR op_ne (pe_ix ix_tup (pv 1) pe_int (fun _ _ => rfl)) (pe_fld (pv 0) rfl) (nomark _)) (pss_one (ps_ret (pv 2))) pss_nil)
      (pss_cons (ps_if (PW.pt (pw_and (pt_cmpR op_eq (pe_ix ix_tup (pv 1) pe_int (fun _ _ => rfl)) pe_str (nomark _)) (pw_and1 (pt_cmpR op_isN (pv 2) pe_non (nomark _))))) (pss_one (ps_ret (pe_ix ix_tup (pv 1) pe_int (fun _ _ => rfl)))) pss_nil)
      (pss_cons (ps_if (PW.pt (pw_and (pt_cmpR op_eq (pe_ix ix_tup (pv 1) pe_int (fun _ _ => rfl)) pe_str (nomark _)) (pw_and (pt_cmpR op_notN (pv 2) pe_non (nomark _)) (pw_and1 (pt_cmpR op_gt (pv 2) (pe_ix ix_tup (pv 1) pe_int (fun _ _ => rfl)) (nomark _))))))
        (pss_one (ps_ret (pcall C1 hr (pa_cons (pv 1) pa_nil)))) pss_nil)
      (pss_one (ps_ret (pv 2))))), ?_⟩
    refine ⟨_, rfl, t, _, 1, _, rfl, rfl, ht, c.at1, _, rfl, a, _, dx, _, _, rfl, ha, cl_Column T, na_Column_name T, colFs_name, rfl, _, rfl, ?_⟩
    unfold chgV at kk
    by_cases hn : c.name = n
    · rw [if_pos hn] at kk
      refine iteNS (by rw [hn]) ?_
      cases c with
      | add n2 g2 d2 =>
        refine ⟨_, rfl, t, _, 0, _, rfl, rfl, ht, rfl, rfl, _, rfl, iteD (nes (show ("add" : Str) ≠ "fill" by decide +kernel)) (iteF ?_)⟩
        exact ⟨_, rfl, t, _, 0, _, rfl, rfl, ht, rfl, rfl, _, rfl, iteD (nes (show ("add" : Str) ≠ "greatest" by decide +kernel)) (iteF ⟨_, rfl, kk⟩)⟩
      | drop n2 =>
        refine ⟨_, rfl, t, _, 0, _, rfl, rfl, ht, rfl, rfl, _, rfl, iteD (nes (show ("drop" : Str) ≠ "fill" by decide +kernel)) (iteF ?_)⟩
        exact ⟨_, rfl, t, _, 0, _, rfl, rfl, ht, rfl, rfl, _, rfl, iteD (nes (show ("drop" : Str) ≠ "greatest" by decide +kernel)) (iteF ⟨_, rfl, kk⟩)⟩
      | rename n2 m2 =>
        refine ⟨_, rfl, t, _, 0, _, rfl, rfl, ht, rfl, rfl, _, rfl, iteD (nes (show ("rename" : Str) ≠ "fill" by decide +kernel)) (iteF ?_)⟩
        exact ⟨_, rfl, t, _, 0, _, rfl, rfl, ht, rfl, rfl, _, rfl, iteD (nes (show ("rename" : Str) ≠ "greatest" by decide +kernel)) (iteF ⟨_, rfl, kk⟩)⟩
      | dflt n2 v2 =>
        refine ⟨_, rfl, t, _, 0, _, rfl, rfl, ht, rfl, rfl, _, rfl, iteD (nes (show ("default" : Str) ≠ "fill" by decide +kernel)) (iteF ?_)⟩
        exact ⟨_, rfl, t, _, 0, _, rfl, rfl, ht, rfl, rfl, _, rfl, iteD (nes (show ("default" : Str) ≠ "greatest" by decide +kernel)) (iteF ⟨_, rfl, kk⟩)⟩
      | fill n2 i =>
        refine ⟨_, rfl, t, _, 0, _, rfl, rfl, ht, rfl, rfl, _, rfl, iteDT rfl ⟨_, rfl, rfl, _, rfl, ?_⟩⟩
        cases v with
        | non => exact iteDT rfl ⟨_, rfl, t, _, 2, _, rfl, rfl, ht, rfl, kk⟩
        | int j =>
          refine iteD (by intro z; cases z) ?_
          exact ⟨_, rfl, t, _, 0, _, rfl, rfl, ht, rfl, rfl, _, rfl, iteD (nes (show ("fill" : Str) ≠ "greatest" by decide +kernel)) (iteF ⟨_, rfl, kk⟩)⟩
        | _ => cases hv
      | great n2 g2 way =>
        refine ⟨_, rfl, t, _, 0, _, rfl, rfl, ht, rfl, rfl, _, rfl, iteD (nes (show ("greatest" : Str) ≠ "fill" by decide +kernel)) (iteF ?_)⟩
        refine ⟨_, rfl, t, _, 0, _, rfl, rfl, ht, rfl, rfl, _, rfl, iteDT rfl ⟨_, rfl, rfl, _, rfl, ?_⟩⟩
        cases v with
        | non => exact iteNS rfl (iteF ⟨_, rfl, kk⟩)
        | int j =>
          refine iteNF (by intro z; cases z) ⟨_, rfl, _, rfl, t, _, 2, _, rfl, rfl, ht, rfl, _, _, rfl, rfl, _, rfl, ?_⟩
          by_cases hj : g2 < j
          · refine iteDT hj ⟨_, rfl, t, n2, way, g2, rfl, ht, ?_⟩
            have e : (if g2 < j then abv g2 way else V.int j) = abv g2 way := if_pos hj
            rw [← e]
            exact kk
          · refine iteD hj ⟨_, rfl, ?_⟩
            have e : (if g2 < j then abv g2 way else V.int j) = V.int j := if_neg hj
            rw [← e]
            exact kk
        | _ => cases hv
    · rw [if_neg hn] at kk
      exact iteNF (nes hn) ⟨_, rfl, kk⟩
-- needs: +COLS
/-! a column at an address -/
def ColA (K : PySem.W.Frag) (H : Hp) (a : Addr) (c : Col) : Prop := ColAt K H a c.name c.top c.dflt c.num
theorem ColA.keep {K : PySem.W.Frag} {H H' : Hp} {a : Addr} {c : Col} (s : Same H H') (h : ColA K H a c) : ColA K H' a c := h.imp fun _ e => s _ _ e
theorem ColA.keepNL {K : PySem.W.Frag} {H H' : Hp} {a : Addr} {c : Col} (s : KeepNL H H') (h : ColA K H a c) : ColA K H' a c := h.imp fun _ e => s _ _ (fun _ z => by cases z) e

/-! changed_column -/
/-- a column's parts fit -/
structure ColOk (c : Col) : Prop where
  nm : isNm (.str c.name) = true
  gr : isGr (.int c.top) = true
  df : isIn c.top c.dflt = true
  nu : 0 ≤ c.num
/-- what a change of a column that does not drop it makes of it -/
def chgC (c : Col) (ch : Ch) : Col := match ch with
  | .rename _ m => { c with name := m }
  | .dflt _ v => { c with dflt := v }
  | .great n g way => { c with top := g, dflt := chgV c.name (.great n g way) c.dflt }
  | _ => c
theorem isIn_ok {g : Int} {v : V} (h : isIn g v = true) : valOk v = true := by
  cases v with
  | non => rfl
  | int _ => rfl
  | _ => cases h
def sp_changed_column (K : PySem.W.Frag) : Sp := fun vs H Q _ => ∃ (a t : Addr) (c : Col) (ch : Ch), vs = [.ref a, .ref t] ∧ ColA K H a c ∧ ChAt K H t ch ∧ ColOk c ∧ ColOk (chgC c ch) ∧ ∀ (a' : Addr) (H' : Hp), Same H H' → ColA K H' a' (chgC c ch) → Q (.ref a') H'
theorem ok_changed_column (T : Tx K mg) : Callee P w K mg base CX0 7 "changed_column" ["column", "change"] [] (sp_changed_column K) := by
  obtain ⟨fdC, GC, bC⟩ := ok_changed (P := P) (w := w) (base := base) T
  obtain ⟨fdI, GI, FI⟩ := ok_Col_init (P := P) (w := w) (base := base) T
  obtain ⟨_, _, kb⟩ := kbinds_Col T FI
  have C1 := (ok_changed_value (P := P) (w := w) (base := base) T).up (show 2 ≤ 6 by decide)
  have cl := cl_Column T
  refine mkCallee (fd_changed_column T) (mg_changed_column T) sc_changed_column (fun _ _ _ _ _ _ us hl => match us, hl with | [_, _], _ => rfl) (fun vs H Q E h => ?_) (fun cdv A outer s H vs Q E hr h => ?_)
  · obtain ⟨a, t, c, ch, rfl, _⟩ := h
    rfl
  · obtain ⟨a, t, c, ch, rfl, ⟨dx, ha⟩, ht, ok1, ok2, k⟩ := h
    have nd := sc_changed_column.nd
    have lk : (colFs c.name c.top c.dflt c.num).lookup ("changed" : Str) = none := by
      have g1 : (("changed" : Str) == "name") = false := by decide +kernel
      have g2 : (("changed" : Str) == "greatest") = false := by decide +kernel
      have g3 : (("changed" : Str) == "default") = false := by decide +kernel
      have g4 : (("changed" : Str) == "number") = false := by decide +kernel
      unfold colFs
      simp [List.lookup, g1, g2, g3, g4]
    refine ⟨_, pss_cons (ps_set (i := 2) nd rfl (Or.inl rfl) (pe_ix ix_tup (pv 1) pe_int (fun _ _ => rfl)))
      (pss_cons (ps_if (pt_cmpR op_eq (pv 2) pe_str (nomark _)) (pss_one (ps_ret (pe_meth (pv 0) cl (me_Column_changed T) GC hr bC .nil pass0 (pa_cons pe_str (pa_cons (pe_ix ix_tup (pv 1) pe_int (fun _ _ => rfl)) pa_nil))))) pss_nil)
      (pss_cons (ps_if (pt_cmpR op_eq (pv 2) pe_str (nomark _)) (pss_one (ps_ret (pe_meth (pv 0) cl (me_Column_changed T) GC hr bC .nil pass0 (pa_cons pe_str (pa_cons (pe_ix ix_tup (pv 1) pe_int (fun _ _ => rfl)) pa_nil))))) pss_nil)
      (pss_cons (ps_if (pt_cmpR op_eq (pv 2) pe_str (nomark _)) (pss_cons (ps_set (i := 3) nd rfl (Or.inl rfl) (pcall C1 hr (pa_cons (pv 0) (pa_cons (pv 1) (pa_cons (pe_fld (pv 0) rfl) pa_nil)))))
          (pss_one (ps_ret (pe_makeK (mk_Column T) GI (hr.mono (by decide)) (by rfl) (mg_Column T) kb pass0 (pa_cons (pe_fld (pv 0) rfl) (pa_cons (pe_ix ix_tup (pv 1) pe_int (fun _ _ => rfl)) (pa_cons (pv 3) pa_nil))) (pk_cons (pe_fld (pv 0) rfl) pk_nil))))) pss_nil)
      (pss_one (ps_ret (pv 0)))))), ?_⟩
    refine ⟨_, rfl, t, _, 0, _, rfl, rfl, ht, ch.at0, _, rfl, rfl, _, rfl, ?_⟩
    have dv := isIn_ok ok1.df
    cases ch with
    | add n g d =>
      refine iteD (nes (show ("add" : Str) ≠ "rename" by decide +kernel)) ⟨_, rfl, rfl, _, rfl, iteD (nes (show ("add" : Str) ≠ "default" by decide +kernel)) ⟨_, rfl, rfl, _, rfl, iteD (nes (show ("add" : Str) ≠ "greatest" by decide +kernel)) ⟨_, rfl, k a H (Same.refl _) ⟨dx, ha⟩⟩⟩⟩
    | drop n =>
      refine iteD (nes (show ("drop" : Str) ≠ "rename" by decide +kernel)) ⟨_, rfl, rfl, _, rfl, iteD (nes (show ("drop" : Str) ≠ "default" by decide +kernel)) ⟨_, rfl, rfl, _, rfl, iteD (nes (show ("drop" : Str) ≠ "greatest" by decide +kernel)) ⟨_, rfl, k a H (Same.refl _) ⟨dx, ha⟩⟩⟩⟩
    | fill n i =>
      refine iteD (nes (show ("fill" : Str) ≠ "rename" by decide +kernel)) ⟨_, rfl, rfl, _, rfl, iteD (nes (show ("fill" : Str) ≠ "default" by decide +kernel)) ⟨_, rfl, rfl, _, rfl, iteD (nes (show ("fill" : Str) ≠ "greatest" by decide +kernel)) ⟨_, rfl, k a H (Same.refl _) ⟨dx, ha⟩⟩⟩⟩
    | rename n m =>
      have i2 : atI (Ch.rename n m).toV 2 = some (.str m) := rfl
      refine iteDT rfl ⟨_, rfl, a, dx, _, rfl, ha, lk, _, rfl, t, _, 2, _, rfl, rfl, ht, i2, a, "name", c.name, m, c.top, c.num, c.top, c.num, c.dflt, c.dflt, .str m, rfl, ⟨dx, ha⟩, ⟨.inl rfl, by rw [if_pos rfl]⟩, ok2.nm, ok2.gr, ok2.df, ok2.nu, fun a' H' _ s' h' => k a' H' s' h'⟩
    | dflt n v =>
      have i2 : atI (Ch.dflt n v).toV 2 = some v := rfl
      refine iteD (nes (show ("default" : Str) ≠ "rename" by decide +kernel)) ⟨_, rfl, rfl, _, rfl, iteDT rfl ⟨_, rfl, a, dx, _, rfl, ha, lk, _, rfl, t, _, 2, _, rfl, rfl, ht, i2, a, "default", c.name, c.name, c.top, c.num, c.top, c.num, c.dflt, v, v, rfl, ⟨dx, ha⟩,
        ⟨.inr (.inr (.inl rfl)), by rw [if_neg (show ¬ ("default" : Str) = "name" by decide +kernel), if_neg (show ¬ ("default" : Str) = "greatest" by decide +kernel), if_pos rfl]⟩, ok2.nm, ok2.gr, ok2.df, ok2.nu, fun a' H' _ s' h' => k a' H' s' h'⟩⟩
    | great n g way =>
      have i2 : atI (Ch.great n g way).toV 2 = some (.int g) := rfl
      refine iteD (nes (show ("greatest" : Str) ≠ "rename" by decide +kernel)) ⟨_, rfl, rfl, _, rfl, iteD (nes (show ("greatest" : Str) ≠ "default" by decide +kernel)) ⟨_, rfl, rfl, _, rfl, iteDT rfl ?_⟩⟩
      refine ⟨_, rfl, _, rfl, _, rfl, a, _, dx, _, _, rfl, ha, cl, na_Column_default T, colFs_default, a, t, c.name, c.top, c.num, c.dflt, c.dflt, .great n g way, rfl, ⟨dx, ha⟩, ht, dv, ?_⟩
      refine ⟨_, rfl, a, _, dx, _, _, rfl, ha, cl, na_Column_name T, colFs_name, _, rfl, t, _, 2, _, rfl, rfl, ht, i2, _, rfl, _, rfl, a, _, dx, _, _, rfl, ha, cl, na_Column_number T, colFs_number, rfl, rfl, fun x dx2 nx ndx ndc => ?_⟩
      refine ⟨x, dx2, c.name, g, c.num, chgV c.name (.great n g way) c.dflt, rfl, upd_same, ok2.nm, ok2.gr, ok2.df, ok2.nu, fun H4 hc4 k4 => ⟨rfl, ?_⟩⟩
      exact k x H4 (fun b o e => k4 b o (ne_of_none e nx) (by rw [upd_ne (ne_of_none e nx), upd_ne (ne_of_none e ndx)]; exact e)) hc4
/-! values compared -/
theorem val_scal2 {v u : V} (h : isVal v = true) (g : isVal u = true) : scal v u = true := by
  cases v with
  | non => cases u with
    | non => rfl
    | int _ => rfl
    | _ => cases g
  | int _ => cases u with
    | non => rfl
    | int _ => rfl
    | _ => cases g
  | _ => cases h
theorem val_scal {v : V} (h : isVal v = true) : scal v v = true := by
  cases v with
  | non => rfl
  | int _ => rfl
  | _ => cases h
theorem in_val {g : Int} {v : V} (h : isIn g v = true) : isVal v = true := by
  cases v with
  | non => rfl
  | int i =>
    have h : (decide (0 ≤ i) && decide (i ≤ g)) = true := h
    exact (Bool.and_eq_true_iff.mp h).1
  | _ => cases h
theorem in_valOk {g : Int} {v : V} (h : isIn g v = true) : valOk v = true := by
  cases v with
  | non => rfl
  | int _ => rfl
  | _ => cases h

/-! column == column -/
def colEq (c d : Col) : Bool := decide (c.name = d.name) && (decide (c.top = d.top) && (decide (c.dflt = d.dflt) && decide (c.num = d.num)))
theorem colEq_self (c : Col) : colEq c c = true := by
  unfold colEq
  rw [decide_eq_true rfl, decide_eq_true rfl, decide_eq_true rfl, decide_eq_true rfl]
  rfl
def sp_Col_eq (K : PySem.W.Frag) : Sp := fun vs H Q _ => ∃ (a b : Addr) (c d : Col), vs = [.ref a, .ref b] ∧ ColA K H a c ∧ ColA K H b d ∧ isVal c.dflt = true ∧ isVal d.dflt = true ∧ Q (.bl (colEq c d)) H
theorem ok_Col_eq (T : Tx K mg) : ∃ fd, FnOk P w K mg base CX0 1 (He.ma K (He.ga K "Column") "__eq__") fd ["self", "other"] (sp_Col_eq K) ∧ Binds K fd ["self", "other"] [] := by
  have ic := insC_of (ex_Column T) (cl_Column T)
  have cl := cl_Column T
  refine mkMeth (fd_Column___eq__ T) sc_Column___eq__ (fun _ _ _ _ _ _ us hl => match us, hl with | [_, _], _ => rfl) (fun vs H Q E h => ?_) (fun cdv A outer s H vs Q E hr h => ?_)
  · obtain ⟨a, b, c, d, rfl, _⟩ := h
    rfl
  obtain ⟨a, b, c, d, rfl, ⟨dx, h1⟩, ⟨dy, h2⟩, v1, v2, k⟩ := h
  refine ⟨_, pss_one (ps_ret (pe_and (pe_callB (C8.call_isC ic) (by rfl) (fr_isinstance T) (by decide +kernel) (pa_cons (pv 1) (pa_cons (pe_glob (v := .ref (He.ga K "Column")) (by rfl) (mg_Column T) rfl) pa_nil)))
    (pe_and (pe_cmpR op_eq (pe_fld (pv 0) rfl) (pe_fld (pv 1) rfl) (nomark _)) (pe_and (pe_cmpR op_eq (pe_fld (pv 0) rfl) (pe_fld (pv 1) rfl) (nomark _)) (pe_and (pe_cmpR op_eq (pe_fld (pv 0) rfl) (pe_fld (pv 1) rfl) (nomark _)) (pe_one (pe_cmpR op_eq (pe_fld (pv 0) rfl) (pe_fld (pv 1) rfl) (nomark _)))))))), ?_⟩
  have dI : ∀ i j : Int, decide (V.int i = V.int j) = decide (i = j) := fun i j => by
    rw [Bool.eq_iff_iff, decide_eq_true_iff, decide_eq_true_iff]
    exact ⟨V.int.inj, congrArg _⟩
  have dS : ∀ i j : Str, decide (V.str i = V.str j) = decide (i = j) := fun i j => by
    rw [Bool.eq_iff_iff, decide_eq_true_iff, decide_eq_true_iff]
    exact ⟨V.str.inj, congrArg _⟩
  unfold colEq at k
  refine ⟨_, rfl, b, dy, _, rfl, h2, _, rfl, iteT ?_⟩
  refine ⟨_, rfl, a, _, dx, _, _, rfl, h1, cl, na_Column_name T, colFs_name, _, rfl, b, _, dy, _, _, rfl, h2, cl, na_Column_name T, colFs_name, rfl, _, rfl, ?_⟩
  rw [dS]
  cases e1 : decide (c.name = d.name) with
  | false =>
    rw [e1] at k
    exact iteF k
  | true =>
    rw [e1, Bool.true_and] at k
    refine iteT ⟨_, rfl, a, _, dx, _, _, rfl, h1, cl, na_Column_greatest T, colFs_greatest, _, rfl, b, _, dy, _, _, rfl, h2, cl, na_Column_greatest T, colFs_greatest, rfl, _, rfl, ?_⟩
    rw [dI]
    cases e2 : decide (c.top = d.top) with
    | false =>
      rw [e2] at k
      exact iteF k
    | true =>
      rw [e2, Bool.true_and] at k
      refine iteT ⟨_, rfl, a, _, dx, _, _, rfl, h1, cl, na_Column_default T, colFs_default, _, rfl, b, _, dy, _, _, rfl, h2, cl, na_Column_default T, colFs_default, val_scal2 v1 v2, _, rfl, ?_⟩
      cases e3 : decide (c.dflt = d.dflt) with
      | false =>
        rw [e3] at k
        exact iteF k
      | true =>
        rw [e3, Bool.true_and] at k
        refine iteT ⟨_, rfl, a, _, dx, _, _, rfl, h1, cl, na_Column_number T, colFs_number, _, rfl, b, _, dy, _, _, rfl, h2, cl, na_Column_number T, colFs_number, rfl, ?_⟩
        rw [dI]
        exact k
/-! Column.__contains__ -/
def sp_contains (K : PySem.W.Frag) : Sp := fun vs H Q _ => ∃ (c : Addr) (n : Str) (g k : Int) (d x : V) (t : String), vs = [.ref c, x] ∧ ColAt K H c n g d k ∧ TyX K H x (.type t) ∧ Q (.bl (isIn g x)) H
theorem ok_contains (T : Tx K mg) : ∃ fd, FnOk P w K mg base CX0 4 (He.ma K (He.ga K "Column") "__contains__") fd ["self", "x"] (sp_contains K) ∧ Binds K fd ["self", "x"] [] := by
  have C1 := ok_is_within (P := P) (w := w) (base := base) T
  obtain ⟨fd, F⟩ := fd_Column___contains__ T
  refine ⟨fd, F.ok (CX := CX0) sc_Column___contains__ (fun vs H Q E h => ?_) (fun cdv A outer s H vs Q E hr h => ?_), F.bindsN fun _ _ _ _ _ _ us hl => match us, hl with | [_, _], _ => rfl⟩
  · obtain ⟨c, n, g, k, d, x, t, rfl, _⟩ := h
    rfl
  suffices hh : ∃ t, PSs (cxOf CX0 P w K mg base ["self", "x"] "Column.__contains__" (defScope s_Column___contains__) (He.ma K (He.ga K "Column") "__contains__") cdv A outer s H E).nox (defBody s_Column___contains__) t ∧
      t { nx := fun _ H' => Q .non H', rt := Q } (start ["self", "x"] vs) H by
    obtain ⟨t, h1, h2⟩ := hh
    exact ⟨t, h1.nox, h2⟩
  obtain ⟨c, n, g, k, d, x, t, rfl, ⟨dx, hc⟩, ty, kk⟩ := h
  refine ⟨_, pss_one (ps_ret (pcall C1 hr (pa_cons (pv 1) (pa_cons (pe_fld (pv 0) rfl) pa_nil)))), ?_⟩
  exact ⟨_, rfl, _, rfl, c, _, dx, _, _, rfl, hc, cl_Column T, na_Column_greatest T, colFs_greatest, x, g, t, rfl, ty, kk⟩
/-! column_numbered, of an int -/
def isK (n : Int) (c : Col) : Bool := decide (c.num = n)
def Numbered (as : List Addr) (cs : List Col) (n : Int) (v : V) : Prop := (v = .non ∧ cs.find? (isK n) = none) ∨ ∃ (i : Nat) (a : Addr) (c : Col), v = .ref a ∧ as[i]? = some a ∧ cs[i]? = some c ∧ cs.find? (isK n) = some c
def sp_column_numbered (K : PySem.W.Frag) : Sp := fun vs H Q _ => ∃ (l : Addr) (as : List Addr) (cs : List Col) (n : Int), vs = [.ref l, .int n] ∧ SqL K H l (as.map V.ref) ∧ Cols K H as cs ∧ ∀ v, Numbered as cs n v → Q v H
theorem findk_pre {cs : List Col} {i : Nat} {c : Col} {n : Int} (h : cs[i]? = some c) (hp : (cs.take i).find? (isK n) = none) : (cs.take (i + 1)).find? (isK n) = if isK n c = true then some c else none := by
  rw [List.take_add_one, h, List.find?_append, hp]
  show (Option.none).or _ = _
  rw [Option.none_or]
  show (match isK n c with | true => some c | false => none) = _
  cases isK n c <;> rfl
theorem findk_take {cs : List Col} {i : Nat} {c : Col} {n : Int} (h : cs[i]? = some c) (hp : (cs.take i).find? (isK n) = none) (hc : isK n c = true) : cs.find? (isK n) = some c := by
  have e : cs = cs.take (i + 1) ++ cs.drop (i + 1) := (List.take_append_drop _ _).symm
  rw [e, List.find?_append, findk_pre h hp, if_pos hc]
  rfl
theorem ok_column_numbered (T : Tx K mg) : Callee P w K mg base CX0 2 "column_numbered" ["columns", "number"] [] (sp_column_numbered K) := by
  have C1 := ok_is_whole (P := P) (w := w) (base := base) T
  refine mkCallee (fd_column_numbered T) (mg_column_numbered T) sc_column_numbered (fun _ _ _ _ _ _ us hl => match us, hl with | [_, _], _ => rfl) (fun vs H Q E h => ?_) (fun cdv A outer s H vs Q E hr h => ?_)
  · obtain ⟨l, as, cs, n, rfl, _⟩ := h
    rfl
  · obtain ⟨l, as, cs, n, rfl, hl, hc, k⟩ := h
    have nd := sc_column_numbered.nd
    refine ⟨_, pss_cons (ps_if (pt_not (pt_val (pcall C1 hr (pa_cons (pv 1) pa_nil)))) (pss_one (ps_ret pe_non)) pss_nil)
        (pss_cons (ps_for PassesOwn.never rfl (pi_list (pv 0)) (pg_name (i := 2) nd rfl (Or.inl rfl)) (pss_one (ps_if (pt_cmpR op_eq (pe_fld (pv 2) rfl) (pv 1) (nomark _)) (pss_one (ps_ret (pv 2))) pss_nil))) (pss_one (ps_ret pe_non))), ?_⟩
    refine ⟨_, rfl, .int n, _, rfl, .base (.int n), _, rfl, iteF ⟨_, rfl, l, rfl, ⟨_, hl⟩, ?_⟩⟩
    refine for_list (xs := as.map V.ref) (fun i σ H' => H' = H ∧ (cs.take i).find? (isK n) = none ∧ ∃ y, σ = [some (.ref l), some (.int n), y]) ⟨rfl, rfl, _, rfl⟩ (fun i σ H' _ h => by rw [h.1]; exact hl) ?_ ?_
    · rintro i x σ H' hx ⟨rfl, hp, y, rfl⟩
      rw [List.getElem?_map] at hx
      cases ha : as[i]? with
      | none =>
        rw [ha] at hx
        cases hx
      | some a =>
        rw [ha] at hx
        obtain rfl := Option.some.inj hx
        obtain ⟨c, hci, dx, hat⟩ := hc.at_ ha
        refine ⟨_, rfl, a, _, dx, _, _, rfl, hat, cl_Column T, na_Column_number T, colFs_number, _, rfl, rfl, _, rfl, ?_⟩
        by_cases e : c.num = n
        · rw [decide_eq_true (show V.int c.num = V.int n by rw [e])]
          exact iteT ⟨_, rfl, k _ (.inr ⟨i, a, c, rfl, ha, hci, findk_take hci hp (decide_eq_true e)⟩)⟩
        · rw [decide_eq_false (fun z => e (V.int.inj z))]
          exact iteF ⟨rfl, by rw [findk_pre hci hp, if_neg (by rw [show isK n c = false from decide_eq_false e]; decide)], _, rfl⟩
    · rintro σ H' ⟨rfl, hp, y, rfl⟩
      rw [List.length_map, hc.len, List.take_length] at hp
      exact k _ (.inl ⟨rfl, hp⟩)
/-! kind_of -/
def sp_kind_of (K : PySem.W.Frag) : Sp := fun vs H Q _ => ∃ (t : Addr) (c : Ch), vs = [.ref t] ∧ ChAt K H t c ∧ Q (.str c.kind) H
theorem ok_kind_of (T : Tx K mg) : Callee P w K mg base CX0 1 "kind_of" ["change"] [] (sp_kind_of K) := by
  refine mkCallee (fd_kind_of T) (mg_kind_of T) sc_kind_of (fun _ _ _ _ _ _ us hl => match us, hl with | [_], _ => rfl) (fun vs H Q E h => ?_) (fun cdv A outer s H vs Q E hr h => ?_)
  · obtain ⟨t, c, rfl, _⟩ := h
    rfl
  · obtain ⟨t, c, rfl, ht, k⟩ := h
    exact ⟨_, pss_one (ps_ret (pe_ix ix_tup (pv 0) pe_int (fun _ _ => rfl))), _, rfl, t, _, 0, _, rfl, rfl, ht, c.at0, k⟩
/-! add_hindrance -/
def addHind (cs : List Col) (n : Str) (g : Int) (d : V) : V := if (cs.find? (isN n)).isSome = true then .str "alive" else if 6 ≤ cs.length then .str "many" else if isIn g d = true then .non else .str "above"
def sp_add_hindrance (K : PySem.W.Frag) : Sp := fun vs H Q _ => ∃ (l t : Addr) (as : List Addr) (cs : List Col) (x : V) (n : Str) (g : Int) (d : V), vs = [.ref l, x, .ref t] ∧ (SqL K H l (as.map V.ref) ∨ SqT K H l (as.map V.ref)) ∧ Cols K H as cs ∧ Named as cs n x ∧ ChAt K H t (.add n g d) ∧ isVal d = true ∧ Q (addHind cs n g d) H
theorem ok_add_hindrance (T : Tx K mg) : Callee P w K mg base CX0 4 "add_hindrance" ["columns", "namesake", "change"] [] (sp_add_hindrance K) := by
  have C1 := ok_is_within (P := P) (w := w) (base := base) T
  refine mkCallee (fd_add_hindrance T) (mg_add_hindrance T) sc_add_hindrance (fun _ _ _ _ _ _ us hl => match us, hl with | [_, _, _], _ => rfl) (fun vs H Q E h => ?_) (fun cdv A outer s H vs Q E hr h => ?_)
  · obtain ⟨l, t, as, cs, x, n, g, d, rfl, _⟩ := h
    rfl
  · obtain ⟨l, t, as, cs, x, n, g, d, rfl, hl, hc, hx, ht, hd, k⟩ := h
    obtain ⟨tk, gM⟩ := mi_MOST_COLUMNS T
    refine ⟨_, pss_cons (ps_if (pt_cmpR op_notN (pv 1) pe_non (nomark _)) (pss_one (ps_ret pe_str)) pss_nil)
      (pss_cons (ps_if (pt_cmpR op_ge (pe_callB call_len (by rfl) (fr_len T) PySem.boot_len (pa_cons (pv 0) pa_nil)) (pe_glob (v := .int 6) (by rfl) gM ⟨_, rfl⟩) (nomark _)) (pss_one (ps_ret pe_str)) pss_nil)
      (pss_cons (ps_if (pt_not (pt_val (pcall C1 hr (pa_cons (pe_ix ix_tup (pv 2) pe_int (fun _ _ => rfl)) (pa_cons (pe_ix ix_tup (pv 2) pe_int (fun _ _ => rfl)) pa_nil))))) (pss_one (ps_ret pe_str)) pss_nil)
      (pss_one (ps_ret pe_non)))), ?_⟩
    unfold addHind at k
    refine ⟨_, rfl, rfl, _, rfl, ?_⟩
    rcases hx with ⟨rfl, hf⟩ | ⟨i, a, c, rfl, _, _, hf⟩
    · rw [hf] at k
      rw [if_neg (show ¬ (Option.isSome (none : Option Col)) = true by decide)] at k
      refine iteNS rfl ?_
      have hlen : LenV K (.ref l) H cs.length := by
        rcases hl with hl | hl
        · exact .inl ⟨_, hl, by rw [List.length_map]; exact hc.len.symm⟩
        · exact .inr ⟨_, hl, by rw [List.length_map]; exact hc.len.symm⟩
      refine ⟨_, rfl, _, cs.length, rfl, hlen, _, _, rfl, rfl, _, rfl, ?_⟩
      by_cases h6 : 6 ≤ cs.length
      · rw [if_pos h6] at k
        exact iteDT (by omega) k
      · rw [if_neg h6] at k
        have td : ∃ ty, TyX K H d (.type ty) := by
          cases d with
          | non => exact ⟨_, .base .non⟩
          | int i => exact ⟨_, .base (.int i)⟩
          | _ => cases hd
        obtain ⟨ty, td⟩ := td
        refine iteD (by omega) ⟨_, rfl, t, _, 3, _, rfl, rfl, ht, rfl, _, rfl, t, _, 2, _, rfl, rfl, ht, rfl, d, g, ty, rfl, td, _, rfl, ?_⟩
        cases hi : isIn g d with
        | true =>
          rw [hi, if_pos rfl] at k
          exact iteF k
        | false =>
          rw [hi, if_neg (by decide)] at k
          exact iteT k
    · rw [hf] at k
      rw [if_pos (show (Option.isSome (some c)) = true from rfl)] at k
      exact iteNF (by intro z; cases z) k
/-! hindrance -/
/-- the word by which a change cannot be done, or None -/
def hindV (cs : List Col) (c : Ch) : V := match c with
  | .add n g d => addHind cs n g d
  | .drop n => match cs.find? (isN n) with
    | none => .str "unknown"
    | some _ => if cs.length = 1 then .str "only" else .non
  | .rename n m => match cs.find? (isN n) with
    | none => .str "unknown"
    | some _ => if (cs.find? (isN m)).isSome = true then .str "alive" else .non
  | .dflt n v => match cs.find? (isN n) with
    | none => .str "unknown"
    | some e => if isIn e.top v = true then .non else .str "above"
  | .great n g way => match cs.find? (isN n) with
    | none => .str "unknown"
    | some e => if chgV e.name (.great n g way) e.dflt = .str "missing" then .str "default" else .non
  | .fill n i => match cs.find? (isN n) with
    | none => .str "unknown"
    | some e => if isIn e.top (.int i) = true then .non else .str "above"
def sp_hindrance (K : PySem.W.Frag) : Sp := fun vs H Q _ => ∃ (l t : Addr) (as : List Addr) (cs : List Col) (c : Ch), vs = [.ref l, .ref t] ∧ (SqL K H l (as.map V.ref) ∨ SqT K H l (as.map V.ref)) ∧ Cols K H as cs ∧ (∀ e ∈ cs, valOk e.dflt = true) ∧ ChAt K H t c ∧ c.fits = true ∧ ∀ H', Same H H' → Q (hindV cs c) H'
theorem chg_scal {n : Str} {c : Ch} {v : V} (h : valOk v = true) : scal (chgV n c v) (.str "missing") = true := by
  unfold chgV
  split
  · cases c <;> cases v <;> first | cases h | rfl | skip
    all_goals (simp only [abv]; repeat (first | rfl | split))
  · cases v <;> first | rfl | cases h
theorem ok_hindrance (T : Tx K mg) : Callee P w K mg base CX0 5 "hindrance" ["columns", "change"] [] (sp_hindrance K) := by
  have C1 := (ok_column_named (P := P) (w := w) (base := base) T).up (show 1 ≤ 4 by decide)
  have C2 := ok_add_hindrance (P := P) (w := w) (base := base) T
  have C3 := (ok_is_within (P := P) (w := w) (base := base) T).up (show 3 ≤ 4 by decide)
  have C4 := (ok_changed_value (P := P) (w := w) (base := base) T).up (show 2 ≤ 4 by decide)
  refine mkCallee (fd_hindrance T) (mg_hindrance T) sc_hindrance (fun _ _ _ _ _ _ us hl => match us, hl with | [_, _], _ => rfl) (fun vs H Q E h => ?_) (fun cdv A outer s H vs Q E hr h => ?_)
  · obtain ⟨l, t, as, cs, c, rfl, _⟩ := h
    rfl
  · obtain ⟨l, t, as, cs, c, rfl, hl, hc, hd, ht, hf, k⟩ := h
    obtain ⟨tk, gM⟩ := ms_MISSING T
    have nd := sc_hindrance.nd
    refine ⟨_, pss_cons (ps_set (i := 2) nd rfl (Or.inl rfl) (pe_ix ix_tup (pv 1) pe_int (fun _ _ => rfl)))
      (pss_cons (ps_set (i := 3) nd rfl (Or.inl rfl) (pcall C1 hr (pa_cons (pv 0) (pa_cons (pe_ix ix_tup (pv 1) pe_int (fun _ _ => rfl)) pa_nil))))
      (pss_cons (ps_if (pt_cmpR op_eq (pv 2) pe_str (nomark _)) (pss_one (ps_ret (pcall C2 hr (pa_cons (pv 0) (pa_cons (pv 3) (pa_cons (pv 1) pa_nil)))))) pss_nil)
      (pss_cons (ps_if (pt_cmpR op_isN (pv 3) pe_non (nomark _)) (pss_one (ps_ret pe_str)) pss_nil)
      (pss_cons (ps_if (PW.pt (pw_and (pt_cmpR op_eq (pv 2) pe_str (nomark _)) (pw_and1 (pt_cmpR op_notN (pcall C1 hr (pa_cons (pv 0) (pa_cons (pe_ix ix_tup (pv 1) pe_int (fun _ _ => rfl)) pa_nil))) pe_non (nomark _))))) (pss_one (ps_ret pe_str)) pss_nil)
      (pss_cons (ps_if (PW.pt (pw_and (pt_cmpR op_eq (pv 2) pe_str (nomark _)) (pw_and1 (pt_cmpR op_eq (pe_callB call_len (by rfl) (fr_len T) PySem.boot_len (pa_cons (pv 0) pa_nil)) pe_int (nomark _))))) (pss_one (ps_ret pe_str)) pss_nil)
      (pss_cons (ps_if (PW.pt (pw_and (pt_cmpR op_in_seq (pv 2) (pe_tup (pa_cons pe_str (pa_cons pe_str pa_nil))) (by rfl)) (pw_and1 (pt_not (pt_val (pcall C3 hr (pa_cons (pe_ix ix_tup (pv 1) pe_int (fun _ _ => rfl)) (pa_cons (pe_fld (pv 3) rfl) pa_nil))))))))
        (pss_one (ps_ret pe_str)) pss_nil)
      (pss_cons (ps_if (PW.pt (pw_and (pt_cmpR op_eq (pv 2) pe_str (nomark _)) (pw_and1 (pt_cmpR op_eq (pcall C4 hr (pa_cons (pv 3) (pa_cons (pv 1) (pa_cons (pe_fld (pv 3) rfl) pa_nil)))) (pe_glob (v := .str "missing") (by rfl) gM ⟨_, rfl⟩) (nomark _))))) (pss_one (ps_ret pe_str)) pss_nil)
      (pss_one (ps_ret pe_non))))))))), ?_⟩
    have hlen : ∀ H', Same H H' → LenV K (.ref l) H' cs.length := fun H' s' => by
      rcases hl with hl | hl
      · exact .inl ⟨_, s'.seq hl, by rw [List.length_map]; exact hc.len.symm⟩
      · exact .inr ⟨_, same_tup s' hl, by rw [List.length_map]; exact hc.len.symm⟩
    refine ⟨_, rfl, t, _, 0, _, rfl, rfl, ht, c.at0, ?_⟩
    refine ⟨_, rfl, _, rfl, t, _, 1, _, rfl, rfl, ht, c.at1, l, as, cs, c.name, rfl, hl, hc, fun x hx => ?_⟩
    have kn : ∀ v, hindV cs c = v → ∀ H', Same H H' → Q v H' := fun v e H' s' => by
      rw [← e]
      exact k H' s'
    have nn : ∀ a, ¬ V.ref a = V.non := fun a z => by cases z
    cases c with
    | add n g d =>
      have hf' : (isNm (.str n) && (isGr (.int g) && isVal d)) = true := hf
      rw [Bool.and_eq_true, Bool.and_eq_true] at hf'
      exact ⟨_, rfl, rfl, _, rfl, iteDT rfl ⟨_, rfl, _, rfl, _, rfl, l, t, as, cs, x, n, g, d, rfl, hl, hc, hx, ht, hf'.2.2, kn _ rfl H (Same.refl _)⟩⟩
    | drop n =>
      refine ⟨_, rfl, rfl, _, rfl, iteD (nes (show ("drop" : Str) ≠ "add" by decide +kernel)) ⟨_, rfl, rfl, _, rfl, ?_⟩⟩
      rcases hx with ⟨rfl, hx⟩ | ⟨i, a, e, rfl, hia, hie, hx⟩
      · have hx' : cs.find? (isN n) = none := hx
        exact iteDT rfl (kn _ (by simp only [hindV, hx']) H (Same.refl _))
      have hx' : cs.find? (isN n) = some e := hx
      refine iteD (nn a) ⟨_, rfl, rfl, _, rfl, iteD (nes (show ("drop" : Str) ≠ "rename" by decide +kernel)) (iteF ⟨_, rfl, rfl, _, rfl, iteDT rfl ⟨_, rfl, _, cs.length, rfl, hlen _ (Same.refl _), rfl, _, rfl, ?_⟩⟩)⟩
      by_cases h1 : cs.length = 1
      · exact iteDT (by rw [h1]; rfl) (kn _ (by simp only [hindV, hx']; rw [if_pos h1]) H (Same.refl _))
      · refine iteD (nei (by omega)) ?_
        exact ⟨_, rfl, (by show 2 ≤ sizeLine; decide), fun t2 nt2 => ⟨t2, _, rfl, .inr (sqT_of upd_same), rfl, rfl, _, rfl, iteF (iteF ⟨_, rfl, rfl, _, rfl, iteD (nes (show ("drop" : Str) ≠ "greatest" by decide +kernel)) (iteF (kn _ (by simp only [hindV, hx']; rw [if_neg h1]) _ (same_new nt2)))⟩)⟩⟩
    | rename n m =>
      refine ⟨_, rfl, rfl, _, rfl, iteD (nes (show ("rename" : Str) ≠ "add" by decide +kernel)) ⟨_, rfl, rfl, _, rfl, ?_⟩⟩
      rcases hx with ⟨rfl, hx⟩ | ⟨i, a, e, rfl, hia, hie, hx⟩
      · have hx' : cs.find? (isN n) = none := hx
        exact iteDT rfl (kn _ (by simp only [hindV, hx']) H (Same.refl _))
      have hx' : cs.find? (isN n) = some e := hx
      have i2 : atI (Ch.rename n m).toV 2 = some (.str m) := rfl
      refine iteD (nn a) ⟨_, rfl, rfl, _, rfl, iteDT rfl ⟨_, rfl, _, rfl, t, _, 2, _, rfl, rfl, ht, i2, l, as, cs, m, rfl, hl, hc, fun y hy => ⟨rfl, _, rfl, ?_⟩⟩⟩
      rcases hy with ⟨rfl, hy⟩ | ⟨i', a', e', rfl, _, _, hy⟩
      · refine iteNS rfl ⟨_, rfl, rfl, _, rfl, iteD (nes (show ("rename" : Str) ≠ "drop" by decide +kernel)) (iteF ?_)⟩
        exact ⟨_, rfl, (by show 2 ≤ sizeLine; decide), fun t2 nt2 => ⟨t2, _, rfl, .inr (sqT_of upd_same), rfl, rfl, _, rfl, iteF (iteF ⟨_, rfl, rfl, _, rfl, iteD (nes (show ("rename" : Str) ≠ "greatest" by decide +kernel)) (iteF (kn _ (by simp only [hindV, hx', hy]; rfl) _ (same_new nt2)))⟩)⟩⟩
      · exact iteNF (nn _) (kn _ (by simp only [hindV, hx', hy]; rfl) H (Same.refl _))
    | dflt n v =>
      refine ⟨_, rfl, rfl, _, rfl, iteD (nes (show ("default" : Str) ≠ "add" by decide +kernel)) ⟨_, rfl, rfl, _, rfl, ?_⟩⟩
      rcases hx with ⟨rfl, hx⟩ | ⟨i, a, e, rfl, hia, hie, hx⟩
      · have hx' : cs.find? (isN n) = none := hx
        exact iteDT rfl (kn _ (by simp only [hindV, hx']) H (Same.refl _))
      have hx' : cs.find? (isN n) = some e := hx
      obtain ⟨e2, he2, dx, hat⟩ := hc.at_ hia
      obtain rfl : e = e2 := Option.some.inj (hie.symm.trans he2)
      have i2 : atI (Ch.dflt n v).toV 2 = some v := rfl
      refine iteD (nn a) ⟨_, rfl, rfl, _, rfl, iteD (nes (show ("default" : Str) ≠ "rename" by decide +kernel)) (iteF ⟨_, rfl, rfl, _, rfl, iteD (nes (show ("default" : Str) ≠ "drop" by decide +kernel)) (iteF ⟨_, rfl, (by show 2 ≤ sizeLine; decide), fun t2 nt2 => ⟨t2, _, rfl, .inr (sqT_of upd_same), rfl, rfl, _, rfl, iteT ?_⟩⟩)⟩)⟩
      have s2 := same_new (o := .tup [V.str "default", .str "fill"]) nt2
      have tv : ∃ ty, ∀ H : Hp, TyX K H v (.type ty) := by
        have hv : (isNm (.str n) && isVal v) = true := hf
        rw [Bool.and_eq_true] at hv
        cases v with
        | non => exact ⟨_, fun _ => .base .non⟩
        | int i => exact ⟨_, fun _ => .base (.int i)⟩
        | _ => cases hv.2
      obtain ⟨ty, tv⟩ := tv
      refine ⟨_, rfl, t, _, 2, _, rfl, rfl, same_tup s2 ht, i2, _, rfl, a, _, dx, _, _, rfl, s2 _ _ hat, cl_Column T, na_Column_greatest T, colFs_greatest, v, e.top, ty, rfl, tv _, _, rfl, ?_⟩
      cases hi : isIn e.top v with
      | true => exact iteF (nxt ⟨_, rfl, rfl, _, rfl, iteD (nes (show ("default" : Str) ≠ "greatest" by decide +kernel)) (iteF (nxt (kn _ (by simp only [hindV, hx']; rw [if_pos hi]) _ s2)))⟩)
      | false => exact iteT (kn _ (by simp only [hindV, hx']; rw [if_neg (by rw [hi]; decide)]) _ s2)
    | fill n v =>
      refine ⟨_, rfl, rfl, _, rfl, iteD (nes (show ("fill" : Str) ≠ "add" by decide +kernel)) ⟨_, rfl, rfl, _, rfl, ?_⟩⟩
      rcases hx with ⟨rfl, hx⟩ | ⟨i, a, e, rfl, hia, hie, hx⟩
      · have hx' : cs.find? (isN n) = none := hx
        exact iteDT rfl (kn _ (by simp only [hindV, hx']) H (Same.refl _))
      have hx' : cs.find? (isN n) = some e := hx
      obtain ⟨e2, he2, dx, hat⟩ := hc.at_ hia
      obtain rfl : e = e2 := Option.some.inj (hie.symm.trans he2)
      have i2 : atI (Ch.fill n v).toV 2 = some (.int v) := rfl
      refine iteD (nn a) ⟨_, rfl, rfl, _, rfl, iteD (nes (show ("fill" : Str) ≠ "rename" by decide +kernel)) (iteF ⟨_, rfl, rfl, _, rfl, iteD (nes (show ("fill" : Str) ≠ "drop" by decide +kernel)) (iteF ⟨_, rfl, (by show 2 ≤ sizeLine; decide), fun t2 nt2 => ⟨t2, _, rfl, .inr (sqT_of upd_same), rfl, rfl, _, rfl, iteT ?_⟩⟩)⟩)⟩
      have s2 := same_new (o := .tup [V.str "default", .str "fill"]) nt2
      have tv : ∃ ty, ∀ H : Hp, TyX K H (.int v) (.type ty) := ⟨_, fun _ => .base (.int v)⟩
      obtain ⟨ty, tv⟩ := tv
      refine ⟨_, rfl, t, _, 2, _, rfl, rfl, same_tup s2 ht, i2, _, rfl, a, _, dx, _, _, rfl, s2 _ _ hat, cl_Column T, na_Column_greatest T, colFs_greatest, (.int v), e.top, ty, rfl, tv _, _, rfl, ?_⟩
      cases hi : isIn e.top (.int v) with
      | true => exact iteF (nxt ⟨_, rfl, rfl, _, rfl, iteD (nes (show ("fill" : Str) ≠ "greatest" by decide +kernel)) (iteF (nxt (kn _ (by simp only [hindV, hx']; rw [if_pos hi]) _ s2)))⟩)
      | false => exact iteT (kn _ (by simp only [hindV, hx']; rw [if_neg (by rw [hi]; decide)]) _ s2)
    | great n g way =>
      refine ⟨_, rfl, rfl, _, rfl, iteD (nes (show ("greatest" : Str) ≠ "add" by decide +kernel)) ⟨_, rfl, rfl, _, rfl, ?_⟩⟩
      rcases hx with ⟨rfl, hx⟩ | ⟨i, a, e, rfl, hia, hie, hx⟩
      · have hx' : cs.find? (isN n) = none := hx
        exact iteDT rfl (kn _ (by simp only [hindV, hx']) H (Same.refl _))
      have hx' : cs.find? (isN n) = some e := hx
      obtain ⟨e2, he2, dx, hat⟩ := hc.at_ hia
      obtain rfl : e = e2 := Option.some.inj (hie.symm.trans he2)
      have hde := hd e (List.mem_of_getElem? hie)
      refine iteD (nn a) ⟨_, rfl, rfl, _, rfl, iteD (nes (show ("greatest" : Str) ≠ "rename" by decide +kernel)) (iteF ⟨_, rfl, rfl, _, rfl, iteD (nes (show ("greatest" : Str) ≠ "drop" by decide +kernel)) (iteF ⟨_, rfl, (by show 2 ≤ sizeLine; decide), fun t2 nt2 => ⟨t2, _, rfl, .inr (sqT_of upd_same), rfl, rfl, _, rfl, iteF (iteF ?_)⟩⟩)⟩)⟩
      have s2 := same_new (o := .tup [V.str "default", .str "fill"]) nt2
      refine ⟨_, rfl, rfl, _, rfl, iteDT rfl ⟨_, rfl, _, rfl, _, rfl, a, _, dx, _, _, rfl, s2 _ _ hat, cl_Column T, na_Column_default T, colFs_default, a, t, e.name, e.top, e.num, e.dflt, e.dflt, .great n g way, rfl, ⟨dx, s2 _ _ hat⟩, same_tup s2 ht, hde, chg_scal hde, _, rfl, ?_⟩⟩
      by_cases hm : chgV e.name (.great n g way) e.dflt = .str "missing"
      · exact iteDT hm (kn _ (by simp only [hindV, hx']; rw [if_pos hm]) _ s2)
      · exact iteD hm (nxt (kn _ (by simp only [hindV, hx']; rw [if_neg hm]) _ s2))
/-! columns_behind -/
/-- the columns behind a change -/
def behind (cs : List Col) (ch : Ch) (num : Int) : List Col := match ch with
  | .add n g d => cs ++ [⟨n, g, d, num⟩]
  | .drop n => cs.filter fun c => !decide (c.name = n)
  | ch => cs.map fun c => if c.name = ch.name then chgC c ch else c
theorem Cols.all {K : PySem.W.Frag} {H : Hp} : ∀ {as : List Addr} {cs : List Col}, as.length = cs.length → (∀ (i : Nat) (a : Addr) (c : Col), as[i]? = some a → cs[i]? = some c → ColA K H a c) → Cols K H as cs
  | [], [], _, _ => .nil
  | [], _ :: _, h, _ => by cases h
  | _ :: _, [], h, _ => by cases h
  | a :: as, c :: cs, h, f => .cons (f 0 a c rfl rfl) (Cols.all (Nat.succ.inj h) fun i a' c' h1 h2 => f (i + 1) a' c' (by simpa using h1) (by simpa using h2))
theorem Cols.two {K : PySem.W.Frag} {H : Hp} {as : List Addr} {cs : List Col} {i : Nat} {a : Addr} {c : Col} (h : Cols K H as cs) (h1 : as[i]? = some a) (h2 : cs[i]? = some c) : ColA K H a c := by
  obtain ⟨c', e, q⟩ := h.at_ h1
  obtain rfl : c = c' := Option.some.inj (h2.symm.trans e)
  exact q
theorem Cols.app {K : PySem.W.Frag} {H : Hp} : ∀ {as bs : List Addr} {cs ds : List Col}, Cols K H as cs → Cols K H bs ds → Cols K H (as ++ bs) (cs ++ ds)
  | _, _, _, _, .nil, h => h
  | _, _, _, _, .cons h t, q => .cons h (t.app q)
/-- the addresses whose columns pass -/
def keepA (f : Col → Bool) : List Addr → List Col → List Addr
  | a :: as, c :: cs => if f c = true then a :: keepA f as cs else keepA f as cs
  | _, _ => []
theorem Cols.filter {K : PySem.W.Frag} {H : Hp} (f : Col → Bool) : ∀ {as : List Addr} {cs : List Col}, Cols K H as cs → Cols K H (keepA f as cs) (cs.filter f)
  | _, _, .nil => .nil
  | _, _, .cons (c := c) h t => by
    have ih := t.filter f
    unfold keepA
    rw [List.filter_cons]
    split
    · exact .cons h ih
    · exact ih
def sp_columns_behind (K : PySem.W.Frag) : Sp := fun vs H Q _ => ∃ (l t : Addr) (as : List Addr) (cs : List Col) (ch : Ch) (num : Int), vs = [.ref l, .ref t, .int num] ∧ SqL K H l (as.map V.ref) ∧ Cols K H as cs ∧ ChAt K H t ch ∧ as.length ≤ 1000 ∧ 0 ≤ num ∧
  (∀ c ∈ cs, ColOk c) ∧ (∀ c ∈ behind cs ch num, ColOk c) ∧ ∀ (l' : Addr) (as' : List Addr) (H' : Hp), H l' = none → Same H H' → H' l' = some (.lst (as'.map V.ref)) → Cols K H' as' (behind cs ch num) → Q (.ref l') H'
/-- the addresses among what a comprehension over the columns keeps -/
theorem keep_map {K : PySem.W.Frag} {H : Hp} (f : Col → Bool) (g : V → Bool) : ∀ {as : List Addr} {cs : List Col}, Cols K H as cs → (∀ a c, ColA K H a c → a ∈ as → g (.ref a) = f c) → ((as.map V.ref).filter g).map (fun x => x) = (keepA f as cs).map V.ref
  | _, _, .nil, _ => rfl
  | _, _, .cons (a := a) (c := c) h t, q => by
    have ih := keep_map f g t fun a' c' h' hm => q a' c' h' (List.mem_cons_of_mem _ hm)
    have e := q a c h List.mem_cons_self
    rw [List.map_id'] at ih ⊢
    unfold keepA
    rw [List.map_cons, List.filter_cons, e]
    split
    · rw [List.map_cons, ih]
    · exact ih
open Classical in
noncomputable def drF (K : PySem.W.Frag) (H : Hp) (n : Str) (x : V) : Bool := decide (∃ a c, x = .ref a ∧ ColA K H a c ∧ ¬ c.name = n)
theorem ColA.name_ {K : PySem.W.Frag} {H : Hp} {a : Addr} {c c' : Col} (h : ColA K H a c) (h' : ColA K H a c') : c.name = c'.name := by
  obtain ⟨dx, h⟩ := h
  obtain ⟨dx', h'⟩ := h'
  rw [h] at h'
  have e := (HO.ins.inj (Option.some.inj h')).2.2
  unfold colFs at e
  exact V.str.inj (congrArg Prod.snd (List.cons.inj e).1)
open Classical in
theorem drF_eq {K : PySem.W.Frag} {H : Hp} {n : Str} {a : Addr} {c : Col} (h : ColA K H a c) : drF K H n (.ref a) = !decide (c.name = n) := by
  unfold drF
  by_cases e : c.name = n
  · rw [decide_eq_true e, decide_eq_false]
    · rfl
    · rintro ⟨a', c', e', h', ne⟩
      cases e'
      exact ne ((h'.name_ h).trans e)
  · rw [decide_eq_false e, decide_eq_true]
    · rfl
    · exact ⟨a, c, rfl, h, e⟩
theorem Cols.of_vs {K : PySem.W.Frag} {H : Hp} : ∀ {ys : List V} {cs : List Col}, ys.length = cs.length → (∀ (i : Nat) (y : V), ys[i]? = some y → ∃ a c, y = .ref a ∧ cs[i]? = some c ∧ ColA K H a c) → ∃ as, ys = as.map V.ref ∧ Cols K H as cs
  | [], [], _, _ => ⟨[], rfl, .nil⟩
  | [], _ :: _, h, _ => by cases h
  | _ :: _, [], h, _ => by cases h
  | y :: ys, c :: cs, h, f => by
    obtain ⟨a, c', rfl, e, hc⟩ := f 0 y rfl
    obtain rfl : c = c' := Option.some.inj e
    obtain ⟨as, rfl, ht⟩ := Cols.of_vs (ys := ys) (cs := cs) (Nat.succ.inj h) fun i y' h1 => f (i + 1) y' (by simpa using h1)
    exact ⟨a :: as, rfl, .cons hc ht⟩
theorem ok_columns_behind (T : Tx K mg) : Callee P w K mg base CX0 8 "columns_behind" ["columns", "change", "number"] [] (sp_columns_behind K) := by
  have C1 := ok_changed_column (P := P) (w := w) (base := base) T
  obtain ⟨fdI, GI, FI⟩ := ok_Col_init (P := P) (w := w) (base := base) T
  obtain ⟨_, _, kb⟩ := kbinds_Col T FI
  have cl := cl_Column T
  refine mkCallee (fd_columns_behind T) (mg_columns_behind T) sc_columns_behind (fun _ _ _ _ _ _ us hl => match us, hl with | [_, _, _], _ => rfl) (fun vs H Q E h => ?_) (fun cdv A outer s H vs Q E hr h => ?_)
  · obtain ⟨l, t, as, cs, ch, num, rfl, _⟩ := h
    rfl
  · obtain ⟨l, t, as, cs, ch, num, rfl, hl, hc, ht, hlen, hnum, okc, okb, k⟩ := h
    have nd := sc_columns_behind.nd
    refine ⟨_, pss_cons (ps_set (i := 3) nd rfl (Or.inl rfl) (pe_ix ix_tup (pv 1) pe_int (fun _ _ => rfl)))
      (pss_cons (ps_set (i := 4) nd rfl (Or.inr rfl) (pe_ix ix_tup (pv 1) pe_int (fun _ _ => rfl)))
      (pss_cons (ps_if (pt_cmpR op_eq (pv 3) pe_str (nomark _)) (pss_one (ps_ret (pe_op op_cat (pe_callTy call_list_of (by rfl) (fr_list T) (by decide +kernel) (pa_cons (pv 0) pa_nil))
          (pe_lst (pa_cons (pe_makeK (mk_Column T) GI (hr.mono (by decide)) (by rfl) (mg_Column T) kb pass0 (pa_cons (pv 4) (pa_cons (pe_ix ix_tup (pv 1) pe_int (fun _ _ => rfl)) (pa_cons (pe_ix ix_tup (pv 1) pe_int (fun _ _ => rfl)) pa_nil))) (pk_cons (pv 2) pk_nil)) pa_nil))))) pss_nil)
      (pss_cons (ps_if (pt_cmpR op_eq (pv 3) pe_str (nomark _)) (pss_one (ps_ret (pe_lc (own := [("column", 5)]) (g := gName 5) (tt := tTest (tOp rNe (tFld K (tVar 5) "name") (tVar 4))) (te := tVar 5) rfl nd (pi_list (pv 0)) (blkOk_by (N := ["columns", "change", "number", "kind", "name", "column"]) (sc := defScope s_columns_behind) (by decide +kernel))
          (fun _ _ _ _ _ => pg_name (i := 5) nd rfl (Or.inl rfl)) (fun _ _ _ _ _ => pts_one (pt_cmpR op_ne (pe_fld (pv 5) rfl) (pv 4) (nomark _))) (fun _ _ _ _ _ => pv 5)))) pss_nil)
      (pss_one (ps_ret (pe_lc (own := [("column", 5)]) (g := gName 5) (tt := tYes) (te := tIf (tTest (tOp rEq (tFld K (tVar 5) "name") (tVar 4))) (tCall (sp_changed_column K) [] E0 (tCons (tVar 5) (tCons (tVar 1) tNil))) (tVar 5)) rfl nd (pi_list (pv 0)) (blkOk_by (N := ["columns", "change", "number", "kind", "name", "column"]) (sc := defScope s_columns_behind) (by decide +kernel))
          (fun _ _ _ _ _ => pg_name (i := 5) nd rfl (Or.inl rfl)) (fun _ _ _ _ _ => pts_nil) (fun _ _ _ _ _ => pe_ifExp (pt_cmpR op_eq (pe_fld (pv 5) rfl) (pv 4) (nomark _)) (pcall C1 hr (pa_cons (pv 5) (pa_cons (pv 1) pa_nil))) (pv 5)))))))), ?_⟩
    refine ⟨_, rfl, t, _, 0, _, rfl, rfl, ht, ch.at0, ?_⟩
    refine ⟨_, rfl, t, _, 1, _, rfl, rfl, ht, ch.at1, ?_⟩
    refine ⟨_, rfl, rfl, _, rfl, ?_⟩
    have other : ∀ ch' : Ch, ch' = ch → behind cs ch' num = cs.map (fun c => if c.name = ch'.name then chgC c ch' else c) → tRet (tLc (iList K (tVar 0)) (gName 5) tYes (tIf (tTest (tOp rEq (tFld K (tVar 5) "name") (tVar 4))) (tCall (sp_changed_column K) [] E0 (tCons (tVar 5) (tCons (tVar 1) tNil))) (tVar 5)) (List.map (fun x => x.2) [(("column" : Str), 5)]))
        { nx := fun _ H' => Q V.non H', rt := Q } [some (.ref l), some (.ref t), some (.int num), some (.str ch'.kind), some (.str ch'.name), none] H := fun ch' e0 e1 => by
      subst e0
      refine tlc_G (fun i y H' => ∃ a c, y = .ref a ∧ (behind cs ch' num)[i]? = some c ∧ ColA K H' a c) (fun i y H1 H2 s2 ⟨a, c, h1, h2, h3⟩ => ⟨a, c, h1, h2, h3.keepNL s2⟩) (fun R h => ⟨_, rfl, h l H (Same.refl _) hl⟩) (by rw [List.length_map]; omega) (fun _ => rfl) ?_ ?_
      · intro i x hx H1 s1 R hR
        rw [List.getElem?_map] at hx
        cases ha : as[i]? with
        | none =>
          rw [ha] at hx
          cases hx
        | some a =>
          rw [ha] at hx
          obtain rfl := Option.some.inj hx
          obtain ⟨c, hci, dx, hat⟩ := hc.at_ ha
          have hb : (behind cs ch' num)[i]? = some (if c.name = ch'.name then chgC c ch' else c) := by rw [e1, List.getElem?_map, hci]; rfl
          refine ⟨_, rfl, a, _, dx, _, _, rfl, s1 _ _ hat, cl, na_Column_name T, colFs_name, _, rfl, rfl, _, rfl, ?_⟩
          by_cases e : c.name = ch'.name
          · rw [if_pos e] at hb
            rw [decide_eq_true (show V.str c.name = V.str ch'.name by rw [e])]
            exact iteT ⟨_, rfl, _, rfl, a, t, c, ch', rfl, ⟨dx, s1 _ _ hat⟩, ht.keep s1, okc _ (List.mem_of_getElem? hci), okb _ (List.mem_of_getElem? hb), fun a' H2 s2 h2 => hR _ _ s2 ⟨a', _, rfl, hb, h2⟩⟩
          · rw [if_neg e] at hb
            rw [decide_eq_false (fun z => e (V.str.inj z))]
            exact iteF ⟨_, rfl, hR _ _ (Same.refl _) ⟨a, _, rfl, hb, dx, s1 _ _ hat⟩⟩
      · intro D ys H' nD s' hD hlen' hy
        obtain ⟨as', rfl, hcs⟩ := Cols.of_vs (by rw [hlen', List.length_map, hc.len, e1, List.length_map]) hy
        exact k D as' H' nD s' hD hcs
    cases ch with
    | add n g d =>
      have i2 : atI (Ch.add n g d).toV 2 = some (.int g) := rfl
      have i3 : atI (Ch.add n g d).toV 3 = some d := rfl
      have okn : ColOk ⟨n, g, d, num⟩ := okb _ (List.mem_append_right _ (List.mem_singleton.mpr rfl))
      refine iteDT rfl ⟨_, rfl, l, _, rfl, .inl hl, fun p np => ?_⟩
      have s1 : Same H (upd H p (.lst (as.map V.ref))) := same_new np
      have hp : upd H p (.lst (as.map V.ref)) p = some (.lst (as.map V.ref)) := upd_same
      generalize upd H p (.lst (as.map V.ref)) = H1 at s1 hp ⊢
      refine ⟨_, rfl, _, rfl, t, _, 2, _, rfl, rfl, ht.keep s1, i2, _, rfl, t, _, 3, _, rfl, rfl, ht.keep s1, i3, _, rfl, rfl, rfl, fun x dx2 nx ndx ndc => ?_⟩
      refine ⟨x, dx2, n, g, num, d, rfl, upd_same, okn.nm, okn.gr, okn.df, okn.nu, fun H4 hc4 k4 => ⟨rfl, ?_⟩⟩
      have s4 : Same H1 H4 := fun b o e => k4 b o (ne_of_none e nx) (by rw [upd_ne (ne_of_none e nx), upd_ne (ne_of_none e ndx)]; exact e)
      refine ⟨by show 1 ≤ sizeLine; decide, fun q nq => ⟨p, q, as.map V.ref, [.ref x], rfl, rfl, ?_, upd_same, ?_, fun l' nl' => ?_⟩⟩
      · exact same_new nq _ _ (s4 _ _ hp)
      · rw [List.length_map]
        exact Nat.le_trans (Nat.add_le_add_right hlen 1) (by decide)
      · have s5 : Same H (upd (upd H4 q (.lst [.ref x])) l' (.lst (as.map V.ref ++ [.ref x]))) := s1.trans (s4.trans ((same_new nq).trans (same_new nl')))
        refine k l' (as ++ [x]) _ ?_ s5 (by rw [List.map_append]; exact upd_same) ((hc.keep s5).app (.cons (ColAt.keep ((same_new nq).trans (same_new nl')) hc4) .nil))
        cases h0 : H l' with
        | none => rfl
        | some o => exact absurd ((s1.trans (s4.trans (same_new nq))) _ _ h0) (by rw [nl']; intro z; cases z)
    | drop n =>
      refine iteD (nes (show ("drop" : Str) ≠ "add" by decide +kernel)) ⟨_, rfl, rfl, _, rfl, iteDT rfl ?_⟩
      refine tlc_L (drF K H n) (fun x => x) (fun R h => ⟨_, rfl, h l H (Same.refl _) hl⟩) (by rw [List.length_map]; omega) (fun _ => rfl) ?_ (fun x _ _ H1 _ R h => ⟨_, rfl, h H1 (Same.refl _)⟩) ?_
      · intro x hx H1 s1 R hR
        obtain ⟨a, ha, rfl⟩ := List.mem_map.mp hx
        obtain ⟨i, hi⟩ := List.mem_iff_getElem?.mp ha
        obtain ⟨c, hc1, dx, hat⟩ := hc.at_ hi
        rw [drF_eq (c := c) ⟨dx, hat⟩] at hR
        have e : decide (V.str c.name = V.str n) = decide (c.name = n) := by
          by_cases e : c.name = n
          · rw [decide_eq_true e, decide_eq_true (by rw [e])]
          · rw [decide_eq_false e, decide_eq_false (fun z => e (V.str.inj z))]
        rw [← e] at hR
        exact ⟨_, rfl, a, _, dx, _, _, rfl, s1 _ _ hat, cl, na_Column_name T, colFs_name, _, rfl, rfl, _, rfl, hR _ (Same.refl _)⟩
      · intro D H' nD s' hD
        rw [keep_map (fun c => !decide (c.name = n)) (drF K H n) hc fun a c h _ => drF_eq h] at hD
        exact k D _ H' nD s' hD ((hc.keep s').filter _)
    | rename n m =>
      exact iteD (nes (show ("rename" : Str) ≠ "add" by decide +kernel)) ⟨_, rfl, rfl, _, rfl, iteD (nes (show ("rename" : Str) ≠ "drop" by decide +kernel)) (other _ rfl rfl)⟩
    | great n g way =>
      exact iteD (nes (show ("greatest" : Str) ≠ "add" by decide +kernel)) ⟨_, rfl, rfl, _, rfl, iteD (nes (show ("greatest" : Str) ≠ "drop" by decide +kernel)) (other _ rfl rfl)⟩
    | dflt n v =>
      exact iteD (nes (show ("default" : Str) ≠ "add" by decide +kernel)) ⟨_, rfl, rfl, _, rfl, iteD (nes (show ("default" : Str) ≠ "drop" by decide +kernel)) (other _ rfl rfl)⟩
    | fill n v =>
      exact iteD (nes (show ("fill" : Str) ≠ "add" by decide +kernel)) ⟨_, rfl, rfl, _, rfl, iteD (nes (show ("fill" : Str) ≠ "drop" by decide +kernel)) (other _ rfl rfl)⟩
/-! births -/
/-- the lists at the addresses es hold the columns eds -/
inductive Eds (K : PySem.W.Frag) (H : Hp) : List Addr → List (List Col) → Prop
  | nil : Eds K H [] []
  | cons {e : Addr} {es : List Addr} {cs : List Col} {eds : List (List Col)} (as : List Addr) : H e = some (.lst (as.map V.ref)) → Cols K H as cs → Eds K H es eds → Eds K H (e :: es) (cs :: eds)
theorem Eds.keep {K : PySem.W.Frag} {H H' : Hp} (s : Same H H') : ∀ {es : List Addr} {eds : List (List Col)}, Eds K H es eds → Eds K H' es eds
  | _, _, .nil => .nil
  | _, _, .cons as h c t => .cons as (s _ _ h) (c.keep s) (t.keep s)
theorem Eds.len {K : PySem.W.Frag} {H : Hp} : ∀ {es : List Addr} {eds : List (List Col)}, Eds K H es eds → es.length = eds.length
  | _, _, .nil => rfl
  | _, _, .cons _ _ _ t => congrArg Nat.succ t.len
theorem Eds.at_ {K : PySem.W.Frag} {H : Hp} : ∀ {es : List Addr} {eds : List (List Col)} {i : Nat} {e : Addr}, Eds K H es eds → es[i]? = some e → ∃ cs as, eds[i]? = some cs ∧ H e = some (.lst (as.map V.ref)) ∧ Cols K H as cs
  | _, _, _, _, .nil, e => by simp at e
  | _, _, 0, _, .cons as h c t, e => by
    simp at e
    subst e
    exact ⟨_, as, rfl, h, c⟩
  | _, _, i + 1, a, .cons as h c t, e => by
    obtain ⟨cs, as', h1, h2⟩ := Eds.at_ (i := i) (e := a) t (by simpa using e)
    exact ⟨cs, as', by simpa using h1, h2⟩
theorem Eds.snoc {K : PySem.W.Frag} {H : Hp} {e : Addr} {as : List Addr} {cs : List Col} (h : H e = some (.lst (as.map V.ref))) (c : Cols K H as cs) : ∀ {es : List Addr} {eds : List (List Col)}, Eds K H es eds → Eds K H (es ++ [e]) (eds ++ [cs])
  | _, _, .nil => .cons as h c .nil
  | _, _, .cons as' h' c' t => .cons as' h' c' (t.snoc h c)
/-- one column more: its edition is told where its number is the next one -/
def bornStep (i : Nat) (b : List Int) (c : Col) : List Int := if c.num = b.length then b ++ [(i : Int)] else b
theorem bornStep_pos {i : Nat} {b : List Int} {c : Col} (h : c.num = b.length) : bornStep i b c = b ++ [(i : Int)] := if_pos h
theorem bornStep_neg {i : Nat} {b : List Int} {c : Col} (h : ¬ c.num = b.length) : bornStep i b c = b := if_neg h
def bornTo (eds : List (List Col)) : Nat → List Int
  | 0 => []
  | i + 1 => (eds.getD i []).foldl (bornStep i) (bornTo eds i)
def bornOf (eds : List (List Col)) : List Int := bornTo eds eds.length
theorem bornStep_len (i : Nat) : ∀ (cs : List Col) (b : List Int), (cs.foldl (bornStep i) b).length ≤ b.length + cs.length
  | [], b => Nat.le_refl _
  | c :: cs, b => by
    refine Nat.le_trans (bornStep_len i cs _) ?_
    have : (bornStep i b c).length ≤ b.length + 1 := by
      unfold bornStep
      split
      · rw [List.length_append]; exact Nat.le_refl _
      · exact Nat.le_succ _
    rw [List.length_cons]
    omega
theorem bornTo_len {eds : List (List Col)} (h : ∀ cs ∈ eds, cs.length ≤ 1000) : ∀ i, (bornTo eds i).length ≤ 1000 * i
  | 0 => Nat.le_refl _
  | i + 1 => by
    have h1 := bornTo_len h i
    have h2 := bornStep_len i (eds.getD i []) (bornTo eds i)
    have h3 : (eds.getD i []).length ≤ 1000 := by
      rw [List.getD_eq_getElem?_getD]
      cases e : eds[i]? with
      | none => exact Nat.zero_le _
      | some cs => exact h cs (List.mem_of_getElem? e)
    show ((eds.getD i []).foldl (bornStep i) (bornTo eds i)).length ≤ _
    omega
def sp_births (K : PySem.W.Frag) : Sp := fun vs H Q _ => ∃ (l : Addr) (es : List Addr) (eds : List (List Col)), vs = [.ref l] ∧ H l = some (.lst (es.map V.ref)) ∧ Eds K H es eds ∧ eds.length ≤ 50 ∧ (∀ cs ∈ eds, cs.length ≤ 1000) ∧
  ∀ (p : Addr) (H' : Hp), H p = none → Same H H' → H' p = some (.lst ((bornOf eds).map V.int)) → Q (.ref p) H'
theorem ok_births (T : Tx K mg) : Callee P w K mg base CX0 1 "births" ["editions"] [] (sp_births K) := by
  refine mkCallee (fd_births T) (mg_births T) sc_births (fun _ _ _ _ _ _ us hl => match us, hl with | [_], _ => rfl) (fun vs H Q E h => ?_) (fun cdv A outer s H vs Q E hr h => ?_)
  · obtain ⟨l, es, eds, rfl, _⟩ := h
    rfl
  · obtain ⟨l, es, eds, rfl, hl, he, h50, hw, k⟩ := h
    have nd := sc_births.nd
    refine ⟨_, pss_cons (ps_set (i := 1) nd rfl (Or.inl rfl) (pe_lst pa_nil))
      (pss_cons (ps_for PassesOwn.never rfl (pi_enum (by rfl) (fr_enumerate T) (pa_cons (pv 0) pa_nil)) (pg_tup rfl (pgs_cons (pg_name (i := 2) nd rfl (Or.inl rfl)) (pgs_cons (pg_name (i := 3) nd rfl (Or.inl rfl)) pgs_nil)))
        (pss_one (ps_for PassesOwn.never rfl (pi_list (pv 3)) (pg_name (i := 4) nd rfl (Or.inl rfl)) (pss_one (ps_if (pt_cmpR op_eq (pe_fld (pv 4) rfl) (pe_callB call_len_seq (by rfl) (fr_len T) PySem.boot_len (pa_cons (pv 1) pa_nil)) (nomark _))
          (pss_one (ps_expr (pe_bm PySem.F.plainAttrs_list PySem.F.slot_list_append PySem.F.type_list_append mt_append (pv 1) (pa_cons (pv 2) pa_nil)))) pss_nil))))) (pss_one (ps_ret (pv 1)))), ?_⟩
    refine ⟨Nat.zero_le _, fun b nb => ⟨_, rfl, l, es.map V.ref, rfl, sqL_of (same_new nb _ _ hl), ?_⟩⟩
    have s0 : Same H (upd H b (.lst [])) := same_new nb
    refine for_it walk_enum (fun i σ H' => Same H H' ∧ H' b = some (.lst ((bornTo eds i).map V.int)) ∧ ∃ x y z, σ = [some (.ref l), some (.ref b), x, y, z]) ⟨s0, upd_same, _, _, _, rfl⟩ (fun i σ H' _ h => sqL_of (h.1 _ _ hl)) ?_ ?_
    · rintro i v σ H1 H2 hi ⟨s1, hb, x, y, z, rfl⟩ ⟨T1, x', y', rfl, nT, rfl, ex, ey⟩
      obtain rfl := Option.some.inj ex
      have ey : (es.map V.ref)[i]? = some y' := ey
      rw [List.getElem?_map] at ey
      cases hes : es[i]? with
      | none =>
        rw [hes] at ey
        cases ey
      | some e =>
        rw [hes] at ey
        obtain rfl := Option.some.inj ey
        obtain ⟨cs, as, hcs, hea, hc⟩ := he.at_ hes
        have hi50 : i < eds.length := (List.getElem?_eq_some_iff.mp hcs).1
        have hgd : eds.getD i [] = cs := by rw [List.getD_eq_getElem?_getD, hcs]; rfl
        have s2 : Same H (upd H1 T1 (.tup [.int (i : Nat), .ref e])) := s1.trans (same_new nT)
        have hb2 : upd H1 T1 (.tup [.int (i : Nat), .ref e]) b = some (.lst ((bornTo eds i).map V.int)) := same_new nT _ _ hb
        refine ⟨T1, _, rfl, sqT_of upd_same, rfl, _, _, rfl, _, _, rfl, rfl, ?_⟩
        generalize upd H1 T1 (.tup [.int (i : Nat), .ref e]) = H2 at s2 hb2 ⊢
        refine ⟨_, rfl, e, rfl, ⟨_, sqL_of (s2 _ _ hea)⟩, ?_⟩
        refine for_list (xs := as.map V.ref) (fun j σ H' => Same H H' ∧ H' b = some (.lst (((cs.take j).foldl (bornStep i) (bornTo eds i)).map V.int)) ∧ ∃ z, σ = [some (.ref l), some (.ref b), some (.int (i : Nat)), some (.ref e), z]) ⟨s2, hb2, _, rfl⟩ (fun j σ H' _ h => sqL_of (h.1 _ _ hea)) ?_ ?_
        · rintro j x σ H3 hx ⟨s3, hb3, z, rfl⟩
          rw [List.getElem?_map] at hx
          cases ha : as[j]? with
          | none =>
            rw [ha] at hx
            cases hx
          | some a =>
            rw [ha] at hx
            obtain rfl := Option.some.inj hx
            obtain ⟨c, hci, dx, hat⟩ := hc.at_ ha
            have et : cs.take (j + 1) = cs.take j ++ [c] := by rw [List.take_add_one, hci]; rfl
            have bl : ((cs.take j).foldl (bornStep i) (bornTo eds i)).length ≤ 100000 := by
              have h1 := bornTo_len hw i
              have h2 := bornStep_len i (cs.take j) (bornTo eds i)
              have h3 : (cs.take j).length ≤ 1000 := Nat.le_trans (List.length_take_le' _ _) (hw cs (List.mem_of_getElem? hcs))
              omega
            refine ⟨_, rfl, a, _, dx, _, _, rfl, s3 _ _ hat, cl_Column T, na_Column_number T, colFs_number, _, rfl, b, _, rfl, .inl (sqL_of hb3), rfl, _, rfl, ?_⟩
            rw [List.length_map]
            by_cases e2 : c.num = (((cs.take j).foldl (bornStep i) (bornTo eds i)).length : Int)
            · rw [decide_eq_true (show V.int c.num = V.int _ by rw [e2])]
              refine iteT ⟨_, rfl, .inl ⟨rfl, _, sqL_of hb3⟩, _, rfl, b, _, _, rfl, rfl, hb3, ?_, same_mut s3 nb, ?_, _, rfl⟩
              · rw [List.length_map]
                exact Nat.lt_of_le_of_lt bl (by decide)
              · rw [upd_same, et, List.foldl_append, List.foldl_cons, List.foldl_nil]
                rw [bornStep_pos e2, List.map_append]
                rfl
            · rw [decide_eq_false (fun z => e2 (V.int.inj z))]
              refine iteF ⟨s3, ?_, _, rfl⟩
              rw [hb3, et, List.foldl_append, List.foldl_cons, List.foldl_nil]
              rw [bornStep_neg e2]
        · rintro σ H3 ⟨s3, hb3, z, rfl⟩
          refine ⟨s3, ?_, _, _, _, rfl⟩
          rw [List.length_map, hc.len, List.take_length] at hb3
          rw [hb3]
          show _ = some (HO.lst (((eds.getD i []).foldl (bornStep i) (bornTo eds i)).map V.int))
          rw [hgd]
    · rintro σ H1 ⟨s1, hb, x, y, z, rfl⟩
      rw [List.length_map, he.len] at hb
      exact ⟨_, rfl, k b H1 nb s1 hb⟩
theorem inV_new {ns : List Str} {n : Str} (h : n ∉ ns) : inV (.str n) (ns.map V.str) = false := by
  unfold inV
  rw [List.any_eq_false]
  intro y hy
  obtain ⟨m, hm, rfl⟩ := List.mem_map.mp hy
  intro e
  exact h ((of_decide_eq_true (show decide (m = n) = true from e)) ▸ hm)

-- needs: Column.__init__
/-! a column's fields hold no method's name -/
theorem colFs_changed {n : Str} {g : Int} {d : V} {k : Int} : (colFs n g d k).lookup ("changed" : Str) = none := by
  have g1 : (("changed" : Str) == "name") = false := by decide +kernel
  have g2 : (("changed" : Str) == "greatest") = false := by decide +kernel
  have g3 : (("changed" : Str) == "default") = false := by decide +kernel
  have g4 : (("changed" : Str) == "number") = false := by decide +kernel
  unfold colFs
  simp [List.lookup, g1, g2, g3, g4]

/-! numbered_columns, where all is well -/
def numb (cs : List Col) : List Col := cs.mapIdx fun i c => { c with num := (i : Nat) }
theorem flat_strs (ns : List Str) : (ns.map V.str).all flatV = true := by
  rw [List.all_eq_true]
  intro y hy
  obtain ⟨m, _, rfl⟩ := List.mem_map.mp hy
  rfl
def sp_numbered (K : PySem.W.Frag) : Sp := fun vs H Q _ => ∃ (l : Addr) (as : List Addr) (cs : List Col), vs = [.ref l] ∧ H l = some (.lst (as.map V.ref)) ∧ Cols K H as cs ∧ 1 ≤ cs.length ∧ cs.length ≤ 6 ∧ (cs.map (·.name)).Nodup ∧ (∀ c ∈ cs, ColOk c) ∧
  ∀ (l' : Addr) (as' : List Addr) (H' : Hp), H l' = none → Same H H' → H' l' = some (.lst (as'.map V.ref)) → Cols K H' as' (numb cs) → Q (.ref l') H'
theorem ok_numbered_columns (T : Tx K mg) : Callee P w K mg base CX0 7 "numbered_columns" ["columns"] [] (sp_numbered K) := by
  have C1 := (ok_is_list (P := P) (w := w) (base := base) T).up (show 1 ≤ 6 by decide)
  obtain ⟨fdC, GC, bC⟩ := ok_changed (P := P) (w := w) (base := base) T
  have cl := cl_Column T
  obtain ⟨tM, eM⟩ := mi_MOST_COLUMNS T
  refine mkCallee (fd_numbered_columns T) (mg_numbered_columns T) sc_numbered_columns (fun _ _ _ _ _ _ us hl => match us, hl with | [_], _ => rfl) (fun vs H Q E h => ?_) (fun cdv A outer s H vs Q E hr h => ?_)
  · obtain ⟨l, as, cs, rfl, _⟩ := h
    rfl
  · obtain ⟨l, as, cs, rfl, hl, hc, h1, h6, hnd, hok, k⟩ := h
    have nd := sc_numbered_columns.nd
    refine ⟨_, pss_cons (ps_if (PW.pt (pw_or (pt_not (pt_val (pcall C1 hr (pa_cons (pv 0) pa_nil)))) (pw_or1 (pt_cmpR op_eq (pe_callB call_len_seq (by rfl) (fr_len T) PySem.boot_len (pa_cons (pv 0) pa_nil)) pe_int (nomark _))))) (pss_one ps_never) pss_nil)
      (pss_cons (ps_set (i := 1) nd rfl (Or.inl rfl) (pe_lst pa_nil))
      (pss_cons (ps_for PassesOwn.never rfl (pi_enum (by rfl) (fr_enumerate T) (pa_cons (pv 0) pa_nil)) (pg_tup rfl (pgs_cons (pg_name (i := 2) nd rfl (Or.inl rfl)) (pgs_cons (pg_name (i := 3) nd rfl (Or.inl rfl)) pgs_nil)))
        (pss_cons (ps_if (PW.pt (pw_or (pt_not (pt_val (pe_callB (C8.call_isC (insC_of (ex_Column T) cl)) (by rfl) (fr_isinstance T) (by decide +kernel) (pa_cons (pv 3) (pa_cons (pe_glob (v := .ref (He.ga K "Column")) (by rfl) (mg_Column T) rfl) pa_nil))))) (pw_or1 (pt_cmpR op_in_seq (pe_fld (pv 3) rfl) (pv 1) (by rfl))))) (pss_one ps_never) pss_nil)
        (pss_one (ps_expr (pe_bm PySem.F.plainAttrs_list PySem.F.slot_list_append PySem.F.type_list_append mt_append (pv 1) (pa_cons (pe_fld (pv 3) rfl) pa_nil))))))
      (pss_cons (ps_if (pt_cmpR op_gt (pe_callB call_len_seq (by rfl) (fr_len T) PySem.boot_len (pa_cons (pv 0) pa_nil)) (pe_glob (v := .int 6) (by rfl) eM ⟨_, rfl⟩) (nomark _)) (pss_one ps_never) pss_nil)
      (pss_one (ps_ret (pe_lc (own := [("index", 2), ("column", 3)]) (g := gTup K 2 (gCons (gName 2) (gCons (gName 3) gNil))) (tt := tYes) (te := tMeth (He.ga K "Column") "changed" (sp_changed K) [] E0 (tVar 3) (tCons (tC (.str "number")) (tCons (tVar 2) tNil))) rfl nd (pi_enum (by rfl) (fr_enumerate T) (pa_cons (pv 0) pa_nil)) (blkOk_by (N := ["columns", "names", "index", "column"]) (sc := defScope s_numbered_columns) (by decide +kernel))
          (fun _ _ _ _ _ => pg_tup rfl (pgs_cons (pg_name (i := 2) nd rfl (Or.inl rfl)) (pgs_cons (pg_name (i := 3) nd rfl (Or.inl rfl)) pgs_nil))) (fun _ _ _ _ _ => pts_nil) (fun _ _ _ _ _ => pe_meth (pv 3) cl (me_Column_changed T) GC hr bC .nil pass0 (pa_cons pe_str (pa_cons (pv 2) pa_nil))))))))), ?_⟩
    refine ⟨_, rfl, l, _, rfl, sqL_of hl, fun H1 s1 => ⟨_, rfl, iteF ⟨_, rfl, l, _, rfl, .inl (sqL_of (s1 _ _ hl)), rfl, _, rfl, ?_⟩⟩⟩
    rw [List.length_map, hc.len, decide_eq_false (fun z => by have := V.int.inj z; omega)]
    refine iteF ⟨Nat.zero_le _, fun p np => ?_⟩
    have hp0 : H p = none := s1.free np
    have s2 : Same H (upd H1 p (.lst [])) := s1.trans (same_new np)
    have hp2 : upd H1 p (.lst []) p = some (.lst (((cs.map (·.name)).take 0).map V.str)) := upd_same
    generalize upd H1 p (.lst []) = H2 at s2 hp2 ⊢
    refine ⟨_, rfl, l, as.map V.ref, rfl, sqL_of (s2 _ _ hl), ?_⟩
    refine for_it walk_enum (fun i σ H' => Same H H' ∧ H' p = some (.lst (((cs.map (·.name)).take i).map V.str)) ∧ ∃ x y, σ = [some (.ref l), some (.ref p), x, y]) ⟨s2, hp2, _, _, rfl⟩ (fun i σ H' _ h => sqL_of (h.1 _ _ hl)) ?_ ?_
    · rintro i v σ H3 H4 hi ⟨s3, hp3, x, y, rfl⟩ ⟨T1, x', y', rfl, nT, rfl, ex, ey⟩
      obtain rfl := Option.some.inj ex
      have ey : (as.map V.ref)[i]? = some y' := ey
      rw [List.getElem?_map] at ey
      cases ha : as[i]? with
      | none =>
        rw [ha] at ey
        cases ey
      | some a =>
        rw [ha] at ey
        obtain rfl := Option.some.inj ey
        obtain ⟨c, hci, dx, hat⟩ := hc.at_ ha
        have s4 : Same H (upd H3 T1 (.tup [.int (i : Nat), .ref a])) := s3.trans (same_new nT)
        have hp4 : upd H3 T1 (.tup [.int (i : Nat), .ref a]) p = some (.lst (((cs.map (·.name)).take i).map V.str)) := same_new nT _ _ hp3
        refine ⟨T1, _, rfl, sqT_of upd_same, rfl, _, _, rfl, _, _, rfl, rfl, ?_⟩
        generalize upd H3 T1 (.tup [.int (i : Nat), .ref a]) = H4 at s4 hp4 ⊢
        have hni : (cs.map (·.name))[i]? = some c.name := by rw [List.getElem?_map, hci]; rfl
        have et : (cs.map (·.name)).take (i + 1) = (cs.map (·.name)).take i ++ [c.name] := by rw [List.take_add_one, hni]; rfl
        have hfresh : c.name ∉ (cs.map (·.name)).take i := fun hm => by
          have hnd2 : ((cs.map (·.name)).take (i + 1)).Nodup := hnd.sublist (List.take_sublist _ _)
          rw [et, List.nodup_append] at hnd2
          exact hnd2.2.2 _ hm _ (List.mem_singleton.mpr rfl) rfl
        refine ⟨_, rfl, a, dx, _, rfl, s4 _ _ hat, _, rfl, iteF ⟨_, rfl, a, _, dx, _, _, rfl, s4 _ _ hat, cl, na_Column_name T, colFs_name, _, rfl, p, _, rfl, .inl (sqL_of hp4), rfl, flat_strs _, _, rfl, ?_⟩⟩
        rw [show (if false = true then !inV (V.str c.name) (((cs.map (·.name)).take i).map V.str) else inV (V.str c.name) (((cs.map (·.name)).take i).map V.str)) = false from inV_new hfresh]
        refine iteF ⟨_, rfl, .inl ⟨rfl, _, sqL_of hp4⟩, _, rfl, a, _, dx, _, _, rfl, s4 _ _ hat, cl, na_Column_name T, colFs_name, p, _, _, rfl, rfl, hp4, ?_, same_mut s4 hp0, ?_, _, _, rfl⟩
        · rw [List.length_map]
          refine Nat.lt_of_le_of_lt (List.length_take_le' _ _) ?_
          rw [List.length_map]
          exact Nat.lt_of_le_of_lt h6 (by decide)
        · rw [upd_same, et, List.map_append]
          rfl
    · rintro σ H3 ⟨s3, hp3, x, y, rfl⟩
      refine ⟨_, rfl, l, _, rfl, .inl (sqL_of (s3 _ _ hl)), _, _, rfl, rfl, _, rfl, ?_⟩
      rw [List.length_map, hc.len, decide_eq_false (by omega)]
      refine iteF ?_
      show tLc (iEnum K (tCons (tVar 0) tNil)) (gTup K 2 (gCons (gName 2) (gCons (gName 3) gNil))) tYes (tMeth (He.ga K "Column") "changed" (sp_changed K) [] E0 (tVar 3) (tCons (tC (.str "number")) (tCons (tVar 2) tNil))) [2, 3] [some (.ref l), some (.ref p), x, y] H3 Q
      refine tlc_GE (K := K) (xs := as.map V.ref) (j1 := 2) (j2 := 3) (vs := [2, 3]) (Q := Q) (H := H3) (fun i y H' => ∃ a c, y = .ref a ∧ (numb cs)[i]? = some c ∧ ColA K H' a c) (fun i y H1 H2 s2 ⟨a, c, h1, h2, h3⟩ => ⟨a, c, h1, h2, h3.keepNL s2⟩) (fun R h => ⟨_, rfl, h l H3 (Same.refl _) (sqL_of (s3 _ _ hl))⟩) (by rw [List.length_map, hc.len]; omega) (fun _ _ => rfl) ?_ ?_
      · intro i x hx H4 s4 R hR
        rw [List.getElem?_map] at hx
        cases ha : as[i]? with
        | none =>
          rw [ha] at hx
          cases hx
        | some a =>
          rw [ha] at hx
          obtain rfl := Option.some.inj hx
          obtain ⟨c, hci, dx, hat⟩ := hc.at_ ha
          have ha4 := s4 _ _ (s3 _ _ hat)
          have ok := hok c (List.mem_of_getElem? hci)
          have hb : (numb cs)[i]? = some { c with num := (i : Nat) } := by
            unfold numb
            rw [List.getElem?_mapIdx, hci]
            rfl
          refine ⟨_, rfl, a, dx, _, rfl, ha4, colFs_changed, _, rfl, a, "number", c.name, c.name, c.top, c.num, c.top, (i : Nat), c.dflt, c.dflt, .int (i : Nat), rfl, ⟨dx, ha4⟩, ⟨.inr (.inr (.inr rfl)), ?_⟩, ok.nm, ok.gr, ok.df, by omega, fun a' H' _ s' h' => hR _ _ s' ⟨a', _, rfl, hb, h'⟩⟩
          rw [if_neg (show ¬ ("number" : Str) = "name" by decide +kernel), if_neg (show ¬ ("number" : Str) = "greatest" by decide +kernel), if_neg (show ¬ ("number" : Str) = "default" by decide +kernel)]
      · intro D ys H' nD s' hD hlen' hy
        obtain ⟨as', rfl, hcs⟩ := Cols.of_vs (by rw [hlen', List.length_map, hc.len]; unfold numb; rw [List.length_mapIdx]) hy
        exact k D as' H' (s3.free nD) (s3.trans s') hD hcs
-- needs: is_list
/-! enumerate(xs), xs a list or a tuple -/
def SqB (K : PySem.W.Frag) (b : Bool) (H : Hp) (a : Addr) (xs : List V) : Prop := match b with
  | false => SqL K H a xs
  | true => SqT K H a xs
theorem SqB.or {K : PySem.W.Frag} {b : Bool} {H : Hp} {a : Addr} {xs : List V} (h : SqB K b H a xs) : SqL K H a xs ∨ SqT K H a xs := by
  cases b with
  | false => exact .inl h
  | true => exact .inr h
theorem SqB.keep {K : PySem.W.Frag} {b : Bool} {H H' : Hp} {a : Addr} {xs : List V} (s : Same H H') (h : SqB K b H a xs) : SqB K b H' a xs := by
  cases b with
  | false => exact s.seq h
  | true => exact same_tup s h
/-- it stays while an instance is filled -/
theorem SqB.up {K : PySem.W.Frag} {b : Bool} {H H' : Hp} {p C dx a : Addr} {fs : List (Str × V)} {xs : List V} (u : ∀ b o, b ≠ p → H b = some o → H' b = some o) (hp : H p = some (.ins C dx fs)) (h : SqB K b H a xs) : SqB K b H' a xs := by
  cases b with
  | false =>
    rcases h with (h | ⟨o, h⟩) | h
    · exact .inl (.inl (u _ _ (fun z => by rw [z, hp] at h; cases h) h))
    · exact .inl (.inr ⟨o, u _ _ (fun z => by rw [z, hp] at h; cases h) h⟩)
    · exact .inr h
  | true =>
    rcases h with (h | ⟨o, h⟩) | h
    · exact .inl (.inl (u _ _ (fun z => by rw [z, hp] at h; cases h) h))
    · exact .inl (.inr ⟨o, u _ _ (fun z => by rw [z, hp] at h; cases h) h⟩)
    · exact .inr h
theorem emptyTupB_ok {K : PySem.W.Frag} {a : Addr} (h : emptyTupB K a = true) (H : Hp) : SqT K H a [] := by
  unfold emptyTupB at h
  cases q : K.lookup a with
  | none =>
    rw [q] at h
    cases h
  | some o =>
    obtain ⟨oc, od, dt, osl⟩ := o
    rw [q] at h
    cases oc with
    | type c =>
      cases dt with
      | seq its n =>
        have h : (decide (c = "tuple") && decide (its.size = 0)) = true := h
        obtain ⟨h1, h2⟩ := Bool.and_eq_true_iff.mp h
        have h1 : c = "tuple" := of_decide_eq_true h1
        have h2 : its.size = 0 := of_decide_eq_true h2
        subst h1
        have e : its = #[] := Array.eq_empty_of_size_eq_zero h2
        subst e
        exact .inr ⟨_, #[], n, q, rfl, rfl, Nat.zero_le _, .nil⟩
      | _ => cases h
    | _ => cases h
def Iteb (K : PySem.W.Frag) (b : Bool) (a : Addr) : It :=
  ⟨fun i H => ∃ (xs : List V) (x : V), SqB K b H a xs ∧ xs[i]? = some x, fun i H v H' => ∃ T x, v = .ref T ∧ H T = none ∧ H' = upd H T (.tup [.int (i : Nat), x]) ∧ ∀ xs, SqB K b H a xs → xs[i]? = some x, fun i H => ∃ xs : List V, SqB K b H a xs ∧ xs.length = i⟩
theorem turn_enumT {P : Program} {w : World} {K : PySem.W.Frag} {elts : List Expr} {kk : Nat} {tpos : Pos} (a e it : Addr) :
    Turn P w K (.Tuple elts kk tpos) (Iteb K true a) [e, it] e (fun i h => (∃ old, IsEnum h e it ((i : Nat) : Int) old) ∧ h.IsTupleIter it a i ∧ e ≠ it) where
  mem := by simp
  obj := fun i h st b hb => by
    obtain ⟨⟨old, he⟩, ⟨o, ho, hc, hd⟩, _⟩ := st
    have e' : b = e ∨ b = it := by simpa using hb
    rcases e' with z | z
    · rw [z]; exact ⟨_, he, fun v q => nomatch q⟩
    · rw [z]; exact ⟨o, ho, fun v q => by rw [hd] at q; cases q⟩
  keep := fun i h h' st kp => let ⟨⟨old, he⟩, hi, hne⟩ := st; ⟨⟨old, kp e (by simp) _ he⟩, hi.at fun o q => kp it (by simp) o q, hne⟩
  item := by
    intro X hP hw hK hc i pins s σ H E I hf st hg
    subst hP hw hK
    obtain ⟨⟨old, he⟩, hit, hne⟩ := st
    obtain ⟨xs, x, hq, hx⟩ := hg
    have hq : SqT X.K H a xs := hq
    obtain ⟨its, rv, p, hz⟩ := I.tuple hq
    have hTup : s.heap.IsTuple a its.toArray := p
    obtain ⟨u, hu, ru⟩ := rv.get hx
    have hel : e < s.heap.objs.size := Heap.lt_size he
    have hil : it < s.heap.objs.size := by obtain ⟨_, q, _⟩ := hit; exact Heap.lt_size q
    have apart : ∀ b o, s.heap.get? b = some o → (∀ q : Value, o.cls = q → q ≠ .type "tuple") → b ≠ a := fun b o h1 h2 z => by
      obtain ⟨o1, q1, q2, _⟩ := hTup
      rw [← z, h1] at q1
      exact h2 _ rfl (by rw [Option.some.inj q1]; exact q2)
    have hea : e ≠ a := apart e _ he fun q e1 e2 => by rw [← e1] at e2; exact absurd (Value.type.inj e2) (by decide)
    have hai : it ≠ a := by
      obtain ⟨o, q1, q2, q3⟩ := hit
      exact apart it o q1 fun q e1 e2 => by rw [← e1, q2] at e2; exact absurd (Value.type.inj e2) (by decide)
    have hsz : i < its.toArray.size := (Array.getElem?_eq_some_iff.mp (show its.toArray[i]? = some u by simpa using hu)).1
    refine wpAny_pyNext_enum_itemC (c := (i : Nat)) (Draws.tuple (A := X.A.in1) (I.ok.hd hc) it a hai.symm its.toArray) he ⟨hit, hTup⟩ hsz hne (by simp [hne, hea]) fun x' h' tk hx' ho ⟨hit', _⟩ hT hsz hk => ?_
    obtain rfl : u = x' := Option.some.inj ((show its.toArray[i]? = some u by simpa using hu).symm.trans hx')
    refine ⟨_, rfl, wpAny_letOwnedTupleGo_enum (s := { s with heap := h', toks := tk + 1 }) ho fun h'' he' sb => ?_⟩
    have hT2 : h''.get? s.heap.objs.size = some { cls := .type "tuple", data := .seq #[.int ((i : Nat)) tk, u] } := (sb.2 _ (Nat.ne_of_gt hel)).trans hT
    have new : ObjOk X.prog X.w (upd H s.heap.objs.size (.tup [.int ((i : Nat)), x])) h'' s.heap.objs.size (.tup [.int ((i : Nat)), x]) :=
      ⟨by show 2 ≤ sizeLine; decide, [.int ((i : Nat)) tk, u], .cons ⟨_, rfl⟩ (.cons ru .nil), ⟨_, hT2, rfl, _, rfl⟩⟩
    have I1 : Inv X pins σ (upd H s.heap.objs.size (.tup [.int ((i : Nat)), x])) { s with heap := h'', toks := tk + 1 } :=
      I.turnedNew (ch := [e, it]) (fun b ob hb q => (sb.2 b (fun z => hb (by simp [z]))).trans (hk b ob (fun z => hb (by simp [z])) (fun z => hb (by simp [z])) q)) hf (Nat.le_refl _) new
    refine ⟨.ref s.heap.objs.size, _, I1, rfl, ⟨_, x, rfl, I.hok.fresh (Nat.le_refl _), rfl, fun ys hy => by rw [I.tuple_inj (show SqT X.K H a ys from hy) hq]; exact hx⟩, ⟨⟨u, ?_⟩, hit'.at fun o q => (sb.2 it (Ne.symm hne)).trans q, hne⟩, fun b hb => ?_⟩
    · have e1 : ((i + 1 : Nat) : Int) = (i : Int) + 1 := by omega
      rw [e1]; exact he'
    · have hb' : b < s.heap.objs.size := by
        have e' : b = e ∨ b = it := by simpa using hb
        rcases e' with z | z
        · rw [z]; exact hel
        · rw [z]; exact hil
      rw [upd_ne (Nat.ne_of_lt hb')]
      exact (hf b hb).1
  done := by
    intro X hP hw hK hc i pins s σ H E I hf st hg
    subst hP hw hK
    obtain ⟨⟨old, he⟩, hit, hne⟩ := st
    obtain ⟨xs, hq, hx⟩ := hg
    have hq : SqT X.K H a xs := hq
    obtain ⟨its, rv, p, hz⟩ := I.tuple hq
    have hTup : s.heap.IsTuple a its.toArray := p
    obtain ⟨f0, f1, f2, f3, f4, f5⟩ := hf it (by simp)
    have hl := rv.length
    have hai : it ≠ a := by
      obtain ⟨o, q1, q2, q3⟩ := hit
      obtain ⟨o1, r1, r2, _⟩ := hTup
      intro z
      rw [z, r1] at q1
      rw [← Option.some.inj q1, r2] at q2
      exact absurd (Value.type.inj q2) (by decide)
    have hn : its.toArray.size = i := by simp; omega
    exact wpAny_pyNext_enum_endD (Draws.tuple (A := X.A.in1) (I.ok.hd hc) it a hai.symm its.toArray) he ⟨by rw [hn]; exact hit, hTup⟩ fun h' eb => ⟨rfl, I.turned (t' := s.toks) (fun b o hb q => eb b o hb q) f0 f1 f3 f4 f5⟩
  self := fun A i s Q E st h => let ⟨⟨_, he⟩, _⟩ := st; wpAny_pyIter_enum he h
theorem turn_enumF {P : Program} {w : World} {K : PySem.W.Frag} {elts : List Expr} {kk : Nat} {tpos : Pos} (a e it : Addr) :
    Turn P w K (.Tuple elts kk tpos) (Iteb K false a) [e, it] e (fun i h => (∃ old, IsEnum h e it ((i : Nat) : Int) old) ∧ h.IsListIter it a i ∧ e ≠ it) :=
  have t := turn_enum (P := P) (w := w) (K := K) (elts := elts) (kk := kk) (tpos := tpos) a e it
  { mem := t.mem, obj := t.obj, keep := t.keep, item := t.item, self := t.self, done := fun X hP hw hK hc i pins s σ H E I hf st hg => t.done X hP hw hK hc i pins s σ H E I hf st (by
      obtain ⟨xs, h1, h2⟩ := hg
      exact ⟨xs, h1, Nat.le_of_eq h2⟩) }
theorem meets_enumerate_new1 {v : Value} {o : Obj} {H : Heap → Prop} (B : Begins v o H) :
    Meets (Builtin.«enumerate.__new__» ⟨[.type "enumerate", v], []⟩) (fun _ R s => H s.heap ∧
      R (.ok (.ret (.ref (s.heap.push o).objs.size))) { s with heap := (s.heap.push o).push { cls := .type "enumerate", data := .fields #[.none, .bool false, .ref s.heap.objs.size, rawInt 0, .none, .none] } }) :=
  .of_wp fun prog w A R s h => by
    obtain ⟨hp, g, d, tk, os⟩ := s; obtain ⟨h1, h⟩ := h
    have hsub := sub_enumerate
    have q1 : ∀ {A' : Around} {E : Value → Shared → Prop} {Q : Value → Shared → Prop}, Q (.ref hp.objs.size) ⟨hp.push o, g, d, tk, os⟩ → wpAny (model prog w) A' (pyIter v) Q E ⟨hp, g, d, tk, os⟩ :=
      fun q => B.iter prog w _ _ ⟨hp, g, d, tk, os⟩ _ h1 q
    wp_walk using q1
    refine wpAny_stack_any fun st => wpAny_pure ?_
    split
    · rename_i c _ _ _ _ _
      cases (c == Value.type "enumerate")
      · wp_walk using q1
        exact ⟨_, rfl, h⟩
      · wp_walk using q1
        exact ⟨_, rfl, h⟩
    · wp_walk using q1
      exact ⟨_, rfl, h⟩
theorem enum_begins1 {prog : Program} {w : World} {A : Around} {E : Value → Shared → Prop} {s : Shared} {v : Value} {o : Obj} {H : Heap → Prop} {Q : Value → Shared → Prop} (B : Begins v o H) (h1 : H s.heap)
    (h : ∀ h', IsEnum h' (s.heap.objs.size + 1) s.heap.objs.size 0 .none → h'.get? s.heap.objs.size = some o → h'.objs.size = s.heap.objs.size + 2 →
      (∀ b o, s.heap.get? b = some o → h'.get? b = some o) → Q (.ref (s.heap.objs.size + 1)) { s with heap := h' }) :
    wpAny (model prog w) A (call (.type "enumerate") [v]) Q E s := by
  refine callType_new F.called_enumerate (by decide) (F.typeCall_enumerate_1 _) (F.newCall_enumerate_1 _) (fun obj => F.args_object_init_2 obj _) F.entry_enumerate_new
    (meets_enumerate_new1 B) ⟨h1, ?_⟩
  have hz : (s.heap.push o).objs.size = s.heap.objs.size + 1 := Heap.size_push ..
  show _ ∧ _
  rw [hz]
  have he : IsEnum ((s.heap.push o).push { cls := .type "enumerate", data := .fields #[.none, .bool false, .ref s.heap.objs.size, rawInt 0, .none, .none] }) (s.heap.objs.size + 1) s.heap.objs.size 0 .none := by
    have := Heap.get?_push_size (s.heap.push o) (o := { cls := .type "enumerate", data := .fields #[.none, .bool false, .ref s.heap.objs.size, rawInt 0, .none, .none] }) rfl
    rw [hz] at this; exact this
  refine ⟨⟨_, he, rfl⟩, h _ he (Heap.get?_push_of_some _ (Heap.get?_push_size _ B.free)) (by rw [Heap.size_push, hz]) fun b o x => Heap.get?_push_of_some _ (Heap.get?_push_of_some _ x)⟩
def iEnumB (K : PySem.W.Frag) (ta : TA) : TI := fun σ H R => ta σ H fun vs H1 => ∃ a xs b, vs = [.ref a] ∧ SqB K b H1 a xs ∧ R (Iteb K b a) H1
theorem pi_enumB {X : Cx} {e : Expr} {ta : TA} {p pos tpos : Pos} {elts : List Expr} {kk : Nat} (hg : Gl X "enumerate") (hm : X.mg "enumerate" = none) (ha : PA X [e] ta) (hs : starEach [e] X.env = [(false, eval e X.env)] := by rfl) :
    PI X (.Tuple elts kk tpos) (.Call (.Name "enumerate" p) [e] [] pos) (iEnumB X.K ta) := by
  refine ⟨fun pins s σ H R I h => ?_⟩
  refine Call_ (ld_blt I hg hm boot_enumerate (PyProof.Rows.callWith_type1 (thn (ha.run pos pins s σ H _ I h) fun us s1 ⟨vs, H1, I1, r1, q1⟩ => ?_) hs rfl))
  obtain ⟨a, xs, b, ex, hq, q⟩ := q1
  subst ex
  cases r1 with
  | cons r rr =>
    cases rr
    cases r
    have fpo : ∀ b : Addr, b ∈ [s1.heap.objs.size + 1, s1.heap.objs.size] → s1.heap.objs.size ≤ b := fun b hb => by
      have e' : b = s1.heap.objs.size + 1 ∨ b = s1.heap.objs.size := by simpa using hb
      rcases e' with z | z
      · rw [z]; exact Nat.le_add_right _ _
      · rw [z]; exact Nat.le_refl _
    cases b with
    | false =>
      have hq : SqL X.K H1 a xs := hq
      obtain ⟨its, rv, p', hz⟩ := I1.list hq
      refine call_enumerate_list p'.isList fun h' he hit hsz hk => wpAny_pyIter_enum he ?_
      have I2 : Inv X pins σ H1 { s1 with heap := h' } := I1.kept (t' := s1.toks) hk
      exact ⟨s1.heap.objs.size + 1, [s1.heap.objs.size + 1, s1.heap.objs.size], _, _, H1, rfl, I2, turn_enumF a (s1.heap.objs.size + 1) s1.heap.objs.size, ⟨⟨.none, he⟩, hit, Nat.succ_ne_self _⟩, fun b hb => I1.fpOk (fpo b hb) (I1.hok.fresh (fpo b hb)), q⟩
    | true =>
      have hq : SqT X.K H1 a xs := hq
      obtain ⟨its, rv, p', hz⟩ := I1.tuple hq
      refine enum_begins1 (begins_tuple a its.toArray) p' fun h' he hit hsz hk => wpAny_pyIter_enum he ?_
      have I2 : Inv X pins σ H1 { s1 with heap := h' } := I1.kept (t' := s1.toks) hk
      exact ⟨s1.heap.objs.size + 1, [s1.heap.objs.size + 1, s1.heap.objs.size], _, _, H1, rfl, I2, turn_enumT a (s1.heap.objs.size + 1) s1.heap.objs.size, ⟨⟨.none, he⟩, ⟨_, hit, rfl, rfl⟩, Nat.succ_ne_self _⟩, fun b hb => I1.fpOk (fpo b hb) (I1.hok.fresh (fpo b hb)), q⟩
theorem walk_enumB {K : PySem.W.Frag} {b : Bool} {a : Addr} {xs : List V} : Walk (Iteb K b a) xs.length (fun H => SqB K b H a xs) (YPair (fun i => some (.int (i : Nat))) (fun i => xs[i]?)) := by
  refine ⟨fun i _ hi q => ⟨xs, xs[i], q, by simp [hi]⟩, fun _ q => ⟨xs, q, rfl⟩, fun i H v H' _ q y => ?_⟩
  obtain ⟨T, x, h1, h2, h3, h4⟩ := y
  exact ⟨T, .int (i : Nat), x, h1, h2, h3, rfl, h4 xs q⟩

-- needs: is_list is_change
/-! is_list, of a list or a tuple -/
def sp_is_listG (K : PySem.W.Frag) : Sp := fun vs H Q _ => ∃ (a : Addr) (xs : List V), vs = [.ref a] ∧ (SqL K H a xs ∨ SqT K H a xs) ∧ ∀ H', Same H H' → Q (.bl true) H'
theorem ok_is_listG (T : Tx K mg) : Callee P w K mg base CX0 1 "is_list" ["value"] [] (sp_is_listG K) := by
  refine mkCallee (fd_is_list T) (mg_is_list T) sc_is_list (fun _ _ _ _ _ _ us hl => match us, hl with | [_], _ => rfl) (fun vs H Q E h => ?_) (fun cdv A outer s H vs Q E hr h => ?_)
  · obtain ⟨a, xs, rfl, _⟩ := h
    rfl
  · obtain ⟨a, xs, rfl, hx, k⟩ := h
    refine ⟨_, pss_one (ps_ret (pe_callB call_isiT (by rfl) (fr_isinstance T) (by decide +kernel) (pa_cons (pv 0) (pa_cons (pe_tup (pa_cons (pe_bltn (v := .ty "list") (by rfl) (fr_list T) (by decide +kernel) rfl) (pa_cons (pe_bltn (v := .ty "tuple") (by rfl) (fr_tuple T) (by decide +kernel) rfl) pa_nil))) pa_nil)))), ?_⟩
    refine ⟨_, rfl, (by show 2 ≤ sizeLine; decide), fun t nt => ?_⟩
    have s := same_new (o := .tup [.ty "list", .ty "tuple"]) nt
    rcases hx with hx | hx
    · exact ⟨.ref a, t, _, _, _, true, rfl, upd_same, .cons (.ty "list") (.cons (.ty "tuple") .nil), sqL_ty (s.seq hx), kitAny_cons (b := true) (kit_ty (by decide +kernel)) (fun z => by cases z) (fun _ => rfl), k _ s⟩
    · exact ⟨.ref a, t, _, _, _, true, rfl, upd_same, .cons (.ty "list") (.cons (.ty "tuple") .nil), sqT_tup (same_tup s hx), kitAny_cons (b := false) (kit_ty (by decide +kernel)) (fun _ => kitAny_cons (b := true) (kit_ty (by decide +kernel)) (fun z => by cases z) (fun _ => rfl)) (fun z => by cases z), k _ s⟩

/-! columns of an edition; what stays right behind a change -/
structure Good (cs : List Col) (n : Int) : Prop where
  ok : ∀ c ∈ cs, ColOk c ∧ c.num < n
  one : 1 ≤ cs.length
  six : cs.length ≤ 6
  names : (cs.map (·.name)).Nodup
  nn : 0 ≤ n
def numThen (ch : Ch) (n : Int) : Int := match ch with
  | .add _ _ _ => n + 1
  | _ => n
theorem kind_add {ch : Ch} {n : Int} (h : ch.kind = "add") : numThen ch n = n + 1 := by
  cases ch with
  | add _ _ _ => rfl
  | drop _ => exact absurd (show ("drop" : Str) = "add" from h) (by decide +kernel)
  | rename _ _ => exact absurd (show ("rename" : Str) = "add" from h) (by decide +kernel)
  | dflt _ _ => exact absurd (show ("default" : Str) = "add" from h) (by decide +kernel)
  | great _ _ _ => exact absurd (show ("greatest" : Str) = "add" from h) (by decide +kernel)
  | fill _ _ => exact absurd (show ("fill" : Str) = "add" from h) (by decide +kernel)
theorem kind_noadd {ch : Ch} {n : Int} (h : ¬ ch.kind = "add") : numThen ch n = n := by
  cases ch with
  | add _ _ _ => exact absurd rfl h
  | _ => rfl
theorem find_uniq {n : Str} : ∀ {cs : List Col} {c : Col}, (cs.map (·.name)).Nodup → c ∈ cs → c.name = n → cs.find? (isN n) = some c
  | [], _, _, h, _ => by cases h
  | e :: cs, c, nd, h, hn => by
    rw [List.map_cons, List.nodup_cons] at nd
    rw [List.find?_cons]
    rcases List.mem_cons.mp h with rfl | h
    · rw [show isN n c = true from decide_eq_true hn]
    · have ne : ¬ e.name = n := fun z => nd.1 (List.mem_map.mpr ⟨c, h, hn.trans z.symm⟩)
      rw [show isN n e = false from decide_eq_false ne]
      exact find_uniq nd.2 h hn
theorem find_no {n : Str} {cs : List Col} (h : cs.find? (isN n) = none) : n ∉ cs.map (·.name) := fun hm => by
  obtain ⟨c, hc, e⟩ := List.mem_map.mp hm
  exact List.find?_eq_none.mp h c hc (decide_eq_true e)
theorem filter_same {n : Str} {cs : List Col} (h : n ∉ cs.map (·.name)) : cs.filter (fun c => !decide (c.name = n)) = cs := by
  rw [List.filter_eq_self]
  intro c hc
  rw [decide_eq_false (fun z => h (List.mem_map.mpr ⟨c, hc, z⟩))]
  rfl
theorem drop_len {n : Str} : ∀ {cs : List Col}, (cs.map (·.name)).Nodup → cs.length ≤ (cs.filter (fun c => !decide (c.name = n))).length + 1
  | [], _ => Nat.zero_le _
  | e :: cs, nd => by
    rw [List.map_cons, List.nodup_cons] at nd
    rw [List.filter_cons]
    by_cases h : e.name = n
    · rw [if_neg (by rw [decide_eq_true h]; decide), filter_same (by rw [← h]; exact nd.1)]
      exact Nat.le_refl _
    · rw [if_pos (by rw [decide_eq_false h]; rfl), List.length_cons, List.length_cons]
      have := drop_len (n := n) nd.2
      omega
theorem names_map {cs : List Col} {f : Col → Col} (nd : (cs.map (·.name)).Nodup) (h : ∀ a ∈ cs, ∀ b ∈ cs, ¬ a.name = b.name → ¬ (f a).name = (f b).name) : ((cs.map f).map (·.name)).Nodup := by
  rw [List.map_map]
  unfold List.Nodup at *
  rw [List.pairwise_map] at *
  exact nd.imp_of_mem fun ha hb e => h _ ha _ hb e
theorem names_same {cs : List Col} {f : Col → Col} (nd : (cs.map (·.name)).Nodup) (h : ∀ a ∈ cs, (f a).name = a.name) : ((cs.map f).map (·.name)).Nodup := names_map nd fun a ha b hb e => by rw [h a ha, h b hb]; exact e
theorem chgV_in {c : Col} {n : Str} {g : Int} {way : Str} (hn : c.name = n) (hg : isGr (.int g) = true) (hd : isIn c.top c.dflt = true) (h : ¬ chgV c.name (.great n g way) c.dflt = .str "missing") : isIn g (chgV c.name (.great n g way) c.dflt) = true := by
  have h1 : 1 ≤ g := by
    have := Bool.and_eq_true_iff.mp hg
    exact of_decide_eq_true this.1
  have hi : ∀ j : Int, 0 ≤ j → j ≤ g → isIn g (.int j) = true := fun j a b => by
    show (decide (0 ≤ j) && decide (j ≤ g)) = true
    rw [decide_eq_true a, decide_eq_true b]
    rfl
  unfold chgV at h ⊢
  rw [if_pos (show (Ch.great n g way).name = c.name from hn.symm)] at h ⊢
  cases e : c.dflt with
  | non => rfl
  | int j =>
    rw [e] at h hd
    have h0 : 0 ≤ j := of_decide_eq_true (Bool.and_eq_true_iff.mp hd).1
    show isIn g (if g < j then abv g way else .int j) = true
    have h : ¬ (if g < j then abv g way else .int j) = V.str "missing" := h
    by_cases q : g < j
    · rw [if_pos q] at h ⊢
      unfold abv at h ⊢
      split
      · exact hi g (by omega) (Int.le_refl g)
      · rename_i q1
        rw [if_neg q1] at h
        split
        · rfl
        · rename_i q2
          rw [if_neg q2] at h
          exact absurd rfl h
    · rw [if_neg q]
      exact hi j h0 (by omega)
  | _ => rw [e] at hd; cases hd
theorem Good.map {cs : List Col} {n : Int} (g : Good cs n) {f : Col → Col} (h1 : ∀ c ∈ cs, ColOk (f c) ∧ (f c).num = c.num) (h2 : ∀ a ∈ cs, ∀ b ∈ cs, ¬ a.name = b.name → ¬ (f a).name = (f b).name) : Good (cs.map f) n where
  ok := fun c hc => by
    obtain ⟨e, he, rfl⟩ := List.mem_map.mp hc
    exact ⟨(h1 e he).1, by rw [(h1 e he).2]; exact (g.ok e he).2⟩
  one := by rw [List.length_map]; exact g.one
  six := by rw [List.length_map]; exact g.six
  names := names_map g.names h2
  nn := g.nn
theorem Good.step {cs : List Col} {n : Int} {ch : Ch} (g : Good cs n) (f : ch.fits = true) (h : hindV cs ch = .non) : Good (behind cs ch n) (numThen ch n) := by
  cases ch with
  | add nm gr d =>
    have h : addHind cs nm gr d = .non := h
    unfold addHind at h
    have f : (isNm (.str nm) && (isGr (.int gr) && isVal d)) = true := f
    rw [Bool.and_eq_true, Bool.and_eq_true] at f
    split at h
    · cases h
    rename_i h1
    split at h
    · cases h
    rename_i h2
    split at h
    · rename_i h3
      have hno : nm ∉ cs.map (·.name) := find_no (Option.not_isSome_iff_eq_none.mp h1)
      refine ⟨fun c hc => ?_, ?_, ?_, ?_, by have := g.nn; show 0 ≤ n + 1; omega⟩
      · rcases List.mem_append.mp hc with hc | hc
        · exact ⟨(g.ok c hc).1, by have := (g.ok c hc).2; show c.num < n + 1; omega⟩
        · cases List.mem_singleton.mp hc
          exact ⟨⟨f.1, f.2.1, h3, g.nn⟩, by show n < n + 1; omega⟩
      · rw [show behind cs (.add nm gr d) n = cs ++ [⟨nm, gr, d, n⟩] from rfl, List.length_append]
        exact Nat.le_add_left _ _
      · rw [show behind cs (.add nm gr d) n = cs ++ [⟨nm, gr, d, n⟩] from rfl, List.length_append]
        show cs.length + 1 ≤ 6
        omega
      · rw [show behind cs (.add nm gr d) n = cs ++ [⟨nm, gr, d, n⟩] from rfl, List.map_append, List.nodup_append]
        refine ⟨g.names, by simp, fun a ha b hb => ?_⟩
        cases List.mem_singleton.mp hb
        intro z
        have z : a = nm := z
        exact hno (by rw [← z]; exact ha)
    · cases h
  | drop nm =>
    have h : (match cs.find? (isN nm) with
      | none => V.str "unknown"
      | some _ => if cs.length = 1 then .str "only" else .non) = .non := h
    have h1 : ¬ cs.length = 1 := fun z => by
      split at h
      · cases h
      · rw [if_pos z] at h
        cases h
    refine ⟨fun c hc => g.ok c (List.mem_filter.mp hc).1, ?_, ?_, ?_, g.nn⟩
    · have := drop_len (n := nm) g.names
      have := g.one
      show 1 ≤ (cs.filter fun c => !decide (c.name = nm)).length
      omega
    · exact Nat.le_trans (List.length_filter_le _ _) g.six
    · exact g.names.sublist (List.filter_sublist.map _)
  | rename nm m =>
    have h : (match cs.find? (isN nm) with
      | none => V.str "unknown"
      | some _ => if (cs.find? (isN m)).isSome = true then .str "alive" else .non) = .non := h
    have f : (isNm (.str nm) && isNm (.str m)) = true := f
    rw [Bool.and_eq_true] at f
    have hno : m ∉ cs.map (·.name) := by
      refine find_no (Option.not_isSome_iff_eq_none.mp fun z => ?_)
      split at h
      · cases h
      · rw [if_pos z] at h
        cases h
    refine g.map (fun c hc => ?_) fun a ha b hb e => ?_
    · by_cases q : c.name = nm
      · rw [if_pos (show c.name = (Ch.rename nm m).name from q)]
        exact ⟨⟨f.2, (g.ok c hc).1.gr, (g.ok c hc).1.df, (g.ok c hc).1.nu⟩, rfl⟩
      · rw [if_neg (show ¬ c.name = (Ch.rename nm m).name from q)]
        exact ⟨(g.ok c hc).1, rfl⟩
    · have ia : ¬ a.name = m := fun z => hno (List.mem_map.mpr ⟨a, ha, z⟩)
      have ib : ¬ b.name = m := fun z => hno (List.mem_map.mpr ⟨b, hb, z⟩)
      show ¬ (if a.name = nm then { a with name := m } else a : Col).name = (if b.name = nm then { b with name := m } else b : Col).name
      by_cases qa : a.name = nm
      · rw [if_pos qa]
        by_cases qb : b.name = nm
        · exact absurd (qa.trans qb.symm) e
        · rw [if_neg qb]
          exact fun z => ib z.symm
      · rw [if_neg qa]
        by_cases qb : b.name = nm
        · rw [if_pos qb]
          exact ia
        · rw [if_neg qb]
          exact e
  | dflt nm v =>
    have h : (match cs.find? (isN nm) with
      | none => V.str "unknown"
      | some e => if isIn e.top v = true then .non else .str "above") = .non := h
    refine g.map (fun c hc => ?_) fun a ha b hb e => ?_
    · by_cases q : c.name = nm
      · rw [if_pos (show c.name = (Ch.dflt nm v).name from q)]
        rw [find_uniq g.names hc q] at h
        refine ⟨⟨(g.ok c hc).1.nm, (g.ok c hc).1.gr, ?_, (g.ok c hc).1.nu⟩, rfl⟩
        have h : (if isIn c.top v = true then V.non else .str "above") = .non := h
        split at h
        · assumption
        · cases h
      · rw [if_neg (show ¬ c.name = (Ch.dflt nm v).name from q)]
        exact ⟨(g.ok c hc).1, rfl⟩
    · show ¬ (if a.name = nm then { a with dflt := v } else a : Col).name = (if b.name = nm then { b with dflt := v } else b : Col).name
      have q : ∀ c : Col, (if c.name = nm then { c with dflt := v } else c : Col).name = c.name := fun c => by split <;> rfl
      rw [q, q]
      exact e
  | great nm gr way =>
    have h : (match cs.find? (isN nm) with
      | none => V.str "unknown"
      | some e => if chgV e.name (.great nm gr way) e.dflt = V.str "missing" then .str "default" else .non) = .non := h
    have f : (isNm (.str nm) && (isGr (.int gr) && isWy way)) = true := f
    rw [Bool.and_eq_true, Bool.and_eq_true] at f
    refine g.map (fun c hc => ?_) fun a ha b hb e => ?_
    · by_cases q : c.name = nm
      · rw [if_pos (show c.name = (Ch.great nm gr way).name from q)]
        rw [find_uniq g.names hc q] at h
        have h : (if chgV c.name (.great nm gr way) c.dflt = V.str "missing" then V.str "default" else .non) = .non := h
        refine ⟨⟨(g.ok c hc).1.nm, f.2.1, chgV_in q f.2.1 (g.ok c hc).1.df fun z => ?_, (g.ok c hc).1.nu⟩, rfl⟩
        rw [if_pos (show chgV c.name (.great nm gr way) c.dflt = V.str "missing" from z)] at h
        cases h
      · rw [if_neg (show ¬ c.name = (Ch.great nm gr way).name from q)]
        exact ⟨(g.ok c hc).1, rfl⟩
    · show ¬ (if a.name = nm then { a with top := gr, dflt := chgV a.name (.great nm gr way) a.dflt } else a : Col).name = (if b.name = nm then { b with top := gr, dflt := chgV b.name (.great nm gr way) b.dflt } else b : Col).name
      have q : ∀ c : Col, (if c.name = nm then { c with top := gr, dflt := chgV c.name (.great nm gr way) c.dflt } else c : Col).name = c.name := fun c => by split <;> rfl
      rw [q, q]
      exact e
  | fill nm i =>
    have q : ∀ c : Col, (if c.name = (Ch.fill nm i).name then chgC c (.fill nm i) else c : Col) = c := fun c => by split <;> rfl
    refine g.map (fun c hc => ?_) fun a ha b hb e => ?_
    · rw [q]
      exact ⟨(g.ok c hc).1, rfl⟩
    · rw [q, q]
      exact e

/-! columns_of_editions, where all is well; what stays right from change to change -/
/-- columns and the next number, behind changes -/
def stepC (p : List Col × Int) (ch : Ch) : List Col × Int := (behind p.1 ch p.2, numThen ch p.2)
def atC (cs : List Col) (chs : List Ch) : List Col × Int := chs.foldl stepC (cs, (cs.length : Int))
/-- the columns of the first so many editions -/
def edsTo (cs : List Col) (chs : List Ch) (n : Nat) : List (List Col) := (List.range n).map fun i => (atC cs (chs.take i)).1
theorem atC_snoc {cs : List Col} {chs : List Ch} {i : Nat} {ch : Ch} (h : chs[i]? = some ch) : atC cs (chs.take (i + 1)) = stepC (atC cs (chs.take i)) ch := by
  unfold atC
  rw [List.take_add_one, h, List.foldl_append]
  rfl
theorem edsTo_succ {cs : List Col} {chs : List Ch} {n : Nat} : edsTo cs chs (n + 1) = edsTo cs chs n ++ [(atC cs (chs.take n)).1] := by
  unfold edsTo
  rw [List.range_succ, List.map_append]
  rfl
/-- each change can be done -/
def Fits (cs : List Col) (chs : List Ch) : Prop := ∀ i ch, chs[i]? = some ch → ch.fits = true ∧ hindV (atC cs (chs.take i)).1 ch = .non
theorem Fits.good {cs : List Col} {chs : List Ch} (g : Good cs cs.length) (f : Fits cs chs) : ∀ i, i ≤ chs.length → Good (atC cs (chs.take i)).1 (atC cs (chs.take i)).2
  | 0, _ => g
  | i + 1, h => by
    have e : chs[i]? = some chs[i] := List.getElem?_eq_getElem (by omega)
    have ih := f.good g i (by omega)
    rw [atC_snoc e]
    exact ih.step (f i _ e).1 (f i _ e).2
/-- the changes at the addresses -/
inductive Chs (K : PySem.W.Frag) (H : Hp) : List Addr → List Ch → Prop
  | nil : Chs K H [] []
  | cons {a : Addr} {as : List Addr} {c : Ch} {cs : List Ch} : ChAt K H a c → Chs K H as cs → Chs K H (a :: as) (c :: cs)
theorem Chs.keep {K : PySem.W.Frag} {H H' : Hp} (s : Same H H') : ∀ {as : List Addr} {cs : List Ch}, Chs K H as cs → Chs K H' as cs
  | _, _, .nil => .nil
  | _, _, .cons h t => .cons (h.keep s) (t.keep s)
theorem Chs.len {K : PySem.W.Frag} {H : Hp} : ∀ {as : List Addr} {cs : List Ch}, Chs K H as cs → as.length = cs.length
  | _, _, .nil => rfl
  | _, _, .cons _ t => congrArg Nat.succ t.len
theorem Chs.at_ {K : PySem.W.Frag} {H : Hp} : ∀ {as : List Addr} {cs : List Ch} {i : Nat} {a : Addr}, Chs K H as cs → as[i]? = some a → ∃ c, cs[i]? = some c ∧ ChAt K H a c
  | _, _, _, _, .nil, e => by simp at e
  | _, _, 0, _, .cons h t, e => by
    simp at e
    subst e
    exact ⟨_, rfl, h⟩
  | _, _, i + 1, a, .cons h t, e => by
    obtain ⟨c, h1, h2⟩ := Chs.at_ (i := i) (a := a) t (by simpa using e)
    exact ⟨c, by simpa using h1, h2⟩
def sp_coe (K : PySem.W.Frag) : Sp := fun vs H Q _ => ∃ (l t : Addr) (as ts : List Addr) (cs : List Col) (chs : List Ch) (bb : Bool), vs = [.ref l, .ref t] ∧ H l = some (.lst (as.map V.ref)) ∧ Cols K H as cs ∧ SqB K bb H t (ts.map V.ref) ∧ Chs K H ts chs ∧ Good cs cs.length ∧ Fits cs chs ∧ chs.length ≤ 40 ∧
  ∀ (l' : Addr) (es : List Addr) (H' : Hp), H l' = none → Same H H' → H' l' = some (.lst (es.map V.ref)) → Eds K H' es (edsTo cs chs (chs.length + 1)) → Q (.ref l') H'
theorem Eds.mut {K : PySem.W.Frag} {H : Hp} {p : Addr} {o : HO} {xs : List V} (hp : H p = some (.lst xs)) : ∀ {es : List Addr} {eds : List (List Col)}, Eds K H es eds → (∀ e ∈ es, e ≠ p) → Eds K (upd H p o) es eds
  | _, _, .nil, _ => .nil
  | _, _, .cons (e := e) as h c t, hne => by
    refine .cons as (by rw [upd_ne (hne e List.mem_cons_self)]; exact h) (Cols.all c.len fun i a c' h1 h2 => ?_) (t.mut hp fun e' he => hne e' (List.mem_cons_of_mem _ he))
    obtain ⟨dx, q⟩ := c.two h1 h2
    exact ⟨dx, by rw [upd_ne (fun z => by rw [z, hp] at q; cases q)]; exact q⟩
theorem ok_columns_of_editions (T : Tx K mg) : Callee P w K mg base CX0 9 "columns_of_editions" ["first", "changes"] [] (sp_coe K) := by
  have C1 := (ok_is_listG (P := P) (w := w) (base := base) T).up (show 1 ≤ 8 by decide)
  have C2 := (ok_is_change (P := P) (w := w) (base := base) T).up (show 5 ≤ 8 by decide)
  have C3 := (ok_hindrance (P := P) (w := w) (base := base) T).up (show 5 ≤ 8 by decide)
  have C4 := ok_columns_behind (P := P) (w := w) (base := base) T
  have C5 := (ok_kind_of (P := P) (w := w) (base := base) T).up (show 1 ≤ 8 by decide)
  obtain ⟨tM, eM⟩ := mi_MOST_CHANGES T
  refine mkCallee (fd_columns_of_editions T) (mg_columns_of_editions T) sc_columns_of_editions (fun _ _ _ _ _ _ us hl => match us, hl with | [_, _], _ => rfl) (fun vs H Q E h => ?_) (fun cdv A outer s H vs Q E hr h => ?_)
  · obtain ⟨l, t, as, ts, cs, chs, bb, rfl, _⟩ := h
    rfl
  · obtain ⟨l, t, as, ts, cs, chs, bb, rfl, hl, hc, ht, hch, hgood, hfit, h40, k⟩ := h
    have nd := sc_columns_of_editions.nd
    refine ⟨_, pss_cons (ps_if (pt_not (pt_val (pcall C1 hr (pa_cons (pv 1) pa_nil)))) (pss_one ps_never) pss_nil)
      (pss_cons (ps_set (i := 2) nd rfl (Or.inl rfl) (pe_lst (pa_cons (pv 0) pa_nil)))
      (pss_cons (ps_set (i := 3) nd rfl (Or.inl rfl) (pe_callB call_len_seq (by rfl) (fr_len T) PySem.boot_len (pa_cons (pv 0) pa_nil)))
      (pss_cons (ps_for PassesOwn.never rfl (pi_enumB (by rfl) (fr_enumerate T) (pa_cons (pv 1) pa_nil)) (pg_tup rfl (pgs_cons (pg_name (i := 4) nd rfl (Or.inl rfl)) (pgs_cons (pg_name (i := 5) nd rfl (Or.inl rfl)) pgs_nil)))
        (pss_cons (ps_set (i := 6) nd rfl (Or.inl rfl) (pe_ix ix_list (pv 2) (pe_un un_neg pe_int) (fun _ _ => rfl)))
        (pss_cons (ps_if (PW.pt (pw_or (pt_not (pt_val (pcall C2 hr (pa_cons (pv 5) pa_nil)))) (pw_or1 (pt_cmpR op_notN (pcall C3 hr (pa_cons (pv 6) (pa_cons (pv 5) pa_nil))) pe_non (nomark _))))) (pss_one ps_never) pss_nil)
        (pss_cons (ps_expr (pe_bm PySem.F.plainAttrs_list PySem.F.slot_list_append PySem.F.type_list_append mt_append (pv 2) (pa_cons (pcall C4 hr (pa_cons (pv 6) (pa_cons (pv 5) (pa_cons (pv 3) pa_nil)))) pa_nil)))
        (pss_one (ps_if (pt_cmpR op_eq (pcall C5 hr (pa_cons (pv 5) pa_nil)) pe_str (nomark _)) (pss_one (ps_aug (i := 3) nd rfl (Or.inl rfl) pe_int ip_add)) pss_nil))))))
      (pss_cons (ps_if (pt_cmpR op_gt (pe_callB call_len_seq (by rfl) (fr_len T) PySem.boot_len (pa_cons (pv 1) pa_nil)) (pe_glob (v := .int 40) (by rfl) eM ⟨_, rfl⟩) (nomark _)) (pss_one ps_never) pss_nil)
      (pss_one (ps_ret (pv 2))))))), ?_⟩
    refine ⟨_, rfl, t, _, rfl, ht.or, fun H1 s1 => ⟨_, rfl, iteF ⟨_, rfl, by show 1 ≤ sizeLine; decide, fun p np => ?_⟩⟩⟩
    have hp0 : H p = none := s1.free np
    have s2 : Same H (upd H1 p (.lst [.ref l])) := s1.trans (same_new np)
    have hp2 : upd H1 p (.lst [.ref l]) p = some (.lst ([l].map V.ref)) := upd_same
    generalize upd H1 p (.lst [.ref l]) = H2 at s2 hp2 ⊢
    have lp : l ≠ p := fun z => by rw [z, hp0] at hl; cases hl
    refine ⟨_, rfl, l, _, rfl, .inl (sqL_of (s2 _ _ hl)), ?_⟩
    rw [List.length_map, hc.len]
    refine ⟨_, rfl, t, ts.map V.ref, bb, rfl, ht.keep s2, ?_⟩
    refine for_it walk_enumB (fun i σ H' => Same H H' ∧ (∃ es, es.length = i + 1 ∧ H' p = some (.lst (es.map V.ref)) ∧ Eds K H' es (edsTo cs chs (i + 1)) ∧ ∀ e ∈ es, e ≠ p) ∧ ∃ x y z, σ = [some (.ref l), some (.ref t), some (.ref p), some (.int (atC cs (chs.take i)).2), x, y, z])
      ⟨s2, ⟨[l], rfl, hp2, .cons as (s2 _ _ hl) (hc.keep s2) .nil, fun e he => by rw [List.mem_singleton.mp he]; exact lp⟩, _, _, _, rfl⟩ (fun i σ H' _ h => ht.keep h.1) ?_ ?_
    · rintro i v σ H3 H4 hi ⟨s3, ⟨es, hes, hp3, hE, hne⟩, x, y, z, rfl⟩ ⟨T1, x', y', rfl, nT, rfl, ex, ey⟩
      obtain rfl := Option.some.inj ex
      have ey : (ts.map V.ref)[i]? = some y' := ey
      rw [List.getElem?_map] at ey
      cases ha : ts[i]? with
      | none =>
        rw [ha] at ey
        cases ey
      | some a =>
        rw [ha] at ey
        obtain rfl := Option.some.inj ey
        obtain ⟨ch, hci, hat⟩ := hch.at_ ha
        have hi2 : i < chs.length := (List.getElem?_eq_some_iff.mp hci).1
        have gd := hfit.good hgood i (Nat.le_of_lt hi2)
        obtain ⟨fit, hind⟩ := hfit i ch hci
        have gd2 := gd.step fit hind
        have s4 : Same H (upd H3 T1 (.tup [.int (i : Nat), .ref a])) := s3.trans (same_new nT)
        have hp4 : upd H3 T1 (.tup [.int (i : Nat), .ref a]) p = some (.lst (es.map V.ref)) := same_new nT _ _ hp3
        have hE4 : Eds K (upd H3 T1 (.tup [.int (i : Nat), .ref a])) es (edsTo cs chs (i + 1)) := hE.keep (same_new nT)
        refine ⟨T1, _, rfl, sqT_of upd_same, rfl, _, _, rfl, _, _, rfl, rfl, ?_⟩
        generalize upd H3 T1 (.tup [.int (i : Nat), .ref a]) = H4 at s4 hp4 hE4 ⊢
        have hlast : es[i]? = some es[i] := List.getElem?_eq_getElem (by omega)
        obtain ⟨cs1, as1, hcs1, hea, hc1⟩ := hE4.at_ hlast
        have ecs : cs1 = (atC cs (chs.take i)).1 := by
          rw [edsTo_succ, List.getElem?_append_right (by unfold edsTo; rw [List.length_map, List.length_range]; exact Nat.le_refl _)] at hcs1
          unfold edsTo at hcs1
          rw [List.length_map, List.length_range, Nat.sub_self] at hcs1
          exact (Option.some.inj hcs1).symm
        subst ecs
        have am1 : atI (es.map V.ref) (-1) = some (.ref es[i]) := by
          unfold atI ixN
          rw [if_neg (by omega), if_pos (by rw [List.length_map]; omega), List.length_map, show ((-1 : Int) + (es.length : Nat)).toNat = i by omega]
          show (es.map V.ref)[i]? = _
          rw [List.getElem?_map, hlast]
          rfl
        refine ⟨_, rfl, 1, rfl, p, _, -1, _, rfl, rfl, sqL_of hp4, am1, ?_⟩
        refine ⟨_, rfl, a, ch, rfl, hat.keep s4, fit, fun H5 s5 => ⟨_, rfl, iteF ⟨_, rfl, _, rfl, es[i], a, as1, _, ch, rfl, .inl (sqL_of (s5 _ _ hea)), hc1.keep s5, fun e he => isIn_ok (gd.ok e he).1.df, (hat.keep s4).keep s5, fit, fun H6 s6 => ?_⟩⟩⟩
        rw [hind]
        refine ⟨rfl, _, rfl, iteF ?_⟩
        have s46 := s5.trans s6
        have s06 : Same H H6 := s4.trans s46
        have hp6 := s46 _ _ hp4
        have hE6 := hE4.keep s46
        have len1 : as1.length ≤ 1000 := by rw [hc1.len]; have := gd.six; omega
        refine ⟨_, rfl, .inl ⟨rfl, _, sqL_of hp6⟩, _, rfl, _, rfl, _, rfl, es[i], a, as1, _, ch, _, rfl, sqL_of (s46 _ _ hea), hc1.keep s46, hat.keep s06, len1, gd.nn, fun c hcm => (gd.ok c hcm).1, fun c hcm => (gd2.ok c hcm).1, fun e' as' H7 n7 s7 he7 hc7 => ?_⟩
        have hp7 := s7 _ _ hp6
        have e7p : e' ≠ p := fun z => by rw [z, hp6] at n7; cases n7
        refine ⟨p, _, _, rfl, rfl, hp7, ?_, ?_⟩
        · rw [List.length_map, hes]
          exact Nat.lt_of_le_of_lt (show i + 1 ≤ 1000 by omega) (by decide)
        have s8 : Same H (upd H7 p (.lst (es.map V.ref ++ [.ref e']))) := same_mut (s06.trans s7) hp0
        have hE8 : Eds K (upd H7 p (.lst (es.map V.ref ++ [.ref e']))) (es ++ [e']) (edsTo cs chs (i + 1 + 1)) := by
          rw [edsTo_succ, atC_snoc hci]
          refine Eds.mut hp7 (Eds.snoc he7 hc7 (hE6.keep s7)) fun e he => ?_
          rcases List.mem_append.mp he with he | he
          · exact hne e he
          · rw [List.mem_singleton.mp he]
            exact e7p
        have hp8 : upd H7 p (.lst (es.map V.ref ++ [.ref e'])) p = some (.lst ((es ++ [e']).map V.ref)) := by rw [upd_same, List.map_append]; rfl
        generalize upd H7 p (.lst (es.map V.ref ++ [.ref e'])) = H8 at s8 hE8 hp8 ⊢
        have hne8 : ∀ e ∈ es ++ [e'], e ≠ p := fun e he => by
          rcases List.mem_append.mp he with he | he
          · exact hne e he
          · rw [List.mem_singleton.mp he]
            exact e7p
        have hl8 : (es ++ [e']).length = i + 1 + 1 := by rw [List.length_append, hes]; rfl
        have e2 : (atC cs (chs.take (i + 1))).2 = numThen ch (atC cs (chs.take i)).2 := by rw [atC_snoc hci]; rfl
        refine ⟨_, rfl, a, ch, rfl, hat.keep s8, rfl, _, rfl, ?_⟩
        by_cases ea : ch.kind = "add"
        · rw [decide_eq_true (show V.str ch.kind = V.str "add" by rw [ea])]
          refine iteT ⟨_, rfl, _, _, rfl, rfl, s8, ⟨_, hl8, hp8, hE8, hne8⟩, some (.int (i : Nat)), some (.ref a), some (.ref es[i]), ?_⟩
          rw [e2, show numThen ch (atC cs (chs.take i)).2 = (atC cs (chs.take i)).2 + 1 from kind_add ea]
          rfl
        · rw [decide_eq_false (fun z => ea (V.str.inj z))]
          refine iteF ⟨s8, ⟨_, hl8, hp8, hE8, hne8⟩, some (.int (i : Nat)), some (.ref a), some (.ref es[i]), ?_⟩
          rw [e2, show numThen ch (atC cs (chs.take i)).2 = (atC cs (chs.take i)).2 from kind_noadd ea]
          rfl
    · rintro σ H3 ⟨s3, ⟨es, hes, hp3, hE, hne⟩, x, y, z, rfl⟩
      refine ⟨_, rfl, t, _, rfl, (ht.keep s3).or, _, _, rfl, rfl, _, rfl, ?_⟩
      rw [List.length_map, hch.len, decide_eq_false (by omega)]
      rw [List.length_map, hch.len] at hE
      exact iteF ⟨_, rfl, k p es H3 hp0 s3 hp3 hE⟩
theorem ixN_ok {n : Nat} {i : Int} (h : 0 ≤ i) (h2 : i < n) : ixN n i = some i.toNat := by
  unfold ixN
  rw [if_pos h, if_pos h2]

/-! drops -/
def gone (next : List Col) (c : Col) : Bool := (next.find? (isK c.num)).isNone
def dropStep (next : List Col) (i : Nat) (d : List V) (c : Col) : List V := if gone next c = true then d.set c.num.toNat (.int (i : Nat)) else d
def dropTo (eds : List (List Col)) (m : Nat) : Nat → List V
  | 0 => List.replicate m .non
  | i + 1 => (eds.getD i []).foldl (dropStep (eds.getD (i + 1) []) (i + 1)) (dropTo eds m i)
def dropOf (eds : List (List Col)) (m : Nat) : List V := dropTo eds m (eds.length - 1)
theorem dropStep_len (next : List Col) (i : Nat) : ∀ (cs : List Col) (d : List V), (cs.foldl (dropStep next i) d).length = d.length
  | [], d => rfl
  | c :: cs, d => by
    refine (dropStep_len next i cs _).trans ?_
    unfold dropStep
    split
    · exact List.length_set
    · rfl
theorem dropTo_len (eds : List (List Col)) (m : Nat) : ∀ i, (dropTo eds m i).length = m
  | 0 => List.length_replicate
  | i + 1 => (dropStep_len _ _ _ _).trans (dropTo_len eds m i)
theorem flat_rep : ∀ n : Nat, (List.replicate n [V.non]).flatten = List.replicate n V.non
  | 0 => rfl
  | n + 1 => by
    rw [List.replicate_succ, List.flatten_cons, flat_rep n]
    rfl
def sp_drops (K : PySem.W.Frag) : Sp := fun vs H Q _ => ∃ (l : Addr) (es : List Addr) (eds : List (List Col)) (m : Nat), vs = [.ref l, .int (m : Nat)] ∧ H l = some (.lst (es.map V.ref)) ∧ Eds K H es eds ∧ 1 ≤ eds.length ∧ eds.length ≤ 50 ∧ m ≤ 100000 ∧ (∀ cs ∈ eds, ∀ c ∈ cs, 0 ≤ c.num ∧ c.num < m) ∧
  ∀ (p : Addr) (H' : Hp), H p = none → Same H H' → H' p = some (.lst (dropOf eds m)) → Q (.ref p) H'
theorem ok_drops (T : Tx K mg) : Callee P w K mg base CX0 3 "drops" ["editions", "many"] [] (sp_drops K) := by
  have C1 := ok_column_numbered (P := P) (w := w) (base := base) T
  refine mkCallee (fd_drops T) (mg_drops T) sc_drops (fun _ _ _ _ _ _ us hl => match us, hl with | [_, _], _ => rfl) (fun vs H Q E h => ?_) (fun cdv A outer s H vs Q E hr h => ?_)
  · obtain ⟨l, es, eds, m, rfl, _⟩ := h
    rfl
  · obtain ⟨l, es, eds, m, rfl, hl, he, h1, h50, hm, hn, k⟩ := h
    have nd := sc_drops.nd
    refine ⟨_, pss_cons (ps_set (i := 2) nd rfl (Or.inl rfl) (pe_op op_rep (pe_lst (pa_cons pe_non pa_nil)) (pv 1)))
      (pss_cons (ps_for PassesOwn.never rfl (pi_range2 (by rfl) (fr_range T) (pa_cons pe_int (pa_cons (pe_callB call_len_seq (by rfl) (fr_len T) PySem.boot_len (pa_cons (pv 0) pa_nil)) pa_nil))) (pg_name (i := 3) nd rfl (Or.inl rfl))
        (pss_one (ps_for PassesOwn.never rfl (pi_list (pe_ix ix_list (pv 0) (pe_op op_sub (pv 3) pe_int) (fun _ _ => rfl))) (pg_name (i := 4) nd rfl (Or.inl rfl))
          (pss_one (ps_if (pt_cmpR op_isN (pcall C1 hr (pa_cons (pe_ix ix_list (pv 0) (pv 3) (fun _ _ => rfl)) (pa_cons (pe_fld (pv 4) rfl) pa_nil))) pe_non (nomark _))
            (pss_one (ps_asg (pv 3) (pg_sub (pv 2) (pe_fld (pv 4) rfl) set_list))) pss_nil))))) (pss_one (ps_ret (pv 2)))), ?_⟩
    have m0 : Eds K H es eds := he
    have lenE := he.len
    refine ⟨by show 1 ≤ sizeLine; decide, fun q nq => ⟨_, rfl, q, (m : Nat), [.non], rfl, rfl, upd_same, by omega, by omega, ?_, fun d nd' => ?_⟩⟩
    · rw [Int.toNat_natCast]
      exact Nat.le_trans (by show 1 * m ≤ 100000; omega) (by decide)
    rw [Int.toNat_natCast, flat_rep]
    have hd0 : H d = none := (same_new nq).free nd'
    have s0 : Same H (upd (upd H q (.lst [.non])) d (.lst (List.replicate m .non))) := (same_new nq).trans (same_new nd')
    have hd : upd (upd H q (.lst [.non])) d (.lst (List.replicate m .non)) d = some (.lst (dropTo eds m 0)) := upd_same
    generalize upd (upd H q (.lst [.non])) d (.lst (List.replicate m .non)) = H1 at s0 hd ⊢
    refine ⟨_, rfl, l, _, rfl, .inl (sqL_of (s0 _ _ hl)), 1, _, rfl, ?_, ?_⟩
    · rw [List.length_map]
      omega
    rw [List.length_map, lenE]
    refine for_range (fun i σ H' => Same H H' ∧ H' d = some (.lst (dropTo eds m i)) ∧ ∃ x y, σ = [some (.ref l), some (.int (m : Nat)), some (.ref d), x, y]) ⟨s0, hd, _, _, rfl⟩ ?_ ?_
    · rintro i σ H1 hi ⟨s1, hd1, x, y, rfl⟩
      have hi1 : i < es.length := by omega
      have hi2 : i + 1 < es.length := by omega
      obtain ⟨cs, as, hcs, hea, hc⟩ := he.at_ (List.getElem?_eq_getElem hi1)
      obtain ⟨cs2, as2, hcs2, hea2, hc2⟩ := he.at_ (List.getElem?_eq_getElem hi2)
      have hgd : eds.getD i [] = cs := by rw [List.getD_eq_getElem?_getD, hcs]; rfl
      have hgd2 : eds.getD (i + 1) [] = cs2 := by rw [List.getD_eq_getElem?_getD, hcs2]; rfl
      have a1 : atI (es.map V.ref) (1 + (i : Int) - 1) = some (.ref es[i]) := by
        unfold atI
        rw [ixN_ok (by omega) (by rw [List.length_map]; omega), show (1 + (i : Int) - 1).toNat = i by omega]
        show (es.map V.ref)[i]? = _
        rw [List.getElem?_map, List.getElem?_eq_getElem hi1]
        rfl
      have a2 : atI (es.map V.ref) (1 + (i : Int)) = some (.ref es[i + 1]) := by
        unfold atI
        rw [ixN_ok (by omega) (by rw [List.length_map]; omega), show (1 + (i : Int)).toNat = i + 1 by omega]
        show (es.map V.ref)[i + 1]? = _
        rw [List.getElem?_map, List.getElem?_eq_getElem hi2]
        rfl
      refine ⟨_, rfl, _, rfl, 1 + (i : Int), 1, rfl, rfl, l, _, 1 + (i : Int) - 1, _, rfl, rfl, sqL_of (s1 _ _ hl), a1, es[i], rfl, ⟨_, sqL_of (s1 _ _ hea)⟩, ?_⟩
      refine for_list (xs := as.map V.ref) (fun j σ H' => Same H H' ∧ H' d = some (.lst ((cs.take j).foldl (dropStep cs2 (i + 1)) (dropTo eds m i))) ∧ ∃ y, σ = [some (.ref l), some (.int (m : Nat)), some (.ref d), some (.int (1 + (i : Int))), y]) ⟨s1, hd1, _, rfl⟩ (fun j σ H' _ h => sqL_of (h.1 _ _ hea)) ?_ ?_
      · rintro j x σ H3 hx ⟨s3, hd3, z, rfl⟩
        rw [List.getElem?_map] at hx
        cases ha : as[j]? with
        | none =>
          rw [ha] at hx
          cases hx
        | some a =>
          rw [ha] at hx
          obtain rfl := Option.some.inj hx
          obtain ⟨c, hci, dx, hat⟩ := hc.at_ ha
          have et : cs.take (j + 1) = cs.take j ++ [c] := by rw [List.take_add_one, hci]; rfl
          have cn := hn cs (List.mem_of_getElem? hcs) c (List.mem_of_getElem? hci)
          refine ⟨_, rfl, _, rfl, l, _, 1 + (i : Int), _, rfl, rfl, sqL_of (s3 _ _ hl), a2, _, rfl, a, _, dx, _, _, rfl, s3 _ _ hat, cl_Column T, na_Column_number T, colFs_number, es[i + 1], as2, cs2, c.num, rfl, sqL_of (s3 _ _ hea2), hc2.keep s3, fun v hv => ?_⟩
          refine ⟨rfl, _, rfl, ?_⟩
          have eg : decide (v = V.non) = gone cs2 c := by
            unfold gone
            rcases hv with ⟨rfl, e⟩ | ⟨i', a', c', rfl, _, _, e⟩
            · rw [e]; rfl
            · rw [e]; rfl
          rw [eg]
          cases hg : gone cs2 c with
          | true =>
            refine iteT ⟨_, rfl, _, rfl, _, rfl, a, _, dx, _, _, rfl, s3 _ _ hat, cl_Column T, na_Column_number T, colFs_number, d, _, c.num, c.num.toNat, rfl, rfl, hd3, ixN_ok cn.1 ?_, same_mut s3 hd0, ?_, _, rfl⟩
            · rw [dropStep_len, dropTo_len]
              exact cn.2
            · rw [upd_same, et, List.foldl_append, List.foldl_cons, List.foldl_nil]
              show _ = some (HO.lst (if gone cs2 c = true then _ else _))
              rw [if_pos hg, show (1 + (i : Int)) = ((i + 1 : Nat) : Int) by omega]
          | false =>
            refine iteF ⟨s3, ?_, _, rfl⟩
            rw [hd3, et, List.foldl_append, List.foldl_cons, List.foldl_nil]
            show _ = some (HO.lst (if gone cs2 c = true then _ else _))
            rw [if_neg (by rw [hg]; decide)]
      · rintro σ H3 ⟨s3, hd3, z, rfl⟩
        refine ⟨s3, ?_, _, _, rfl⟩
        rw [List.length_map, hc.len, List.take_length] at hd3
        rw [hd3]
        show _ = some (HO.lst ((eds.getD i []).foldl (dropStep (eds.getD (i + 1) []) (i + 1)) (dropTo eds m i)))
        rw [hgd, hgd2]
    · rintro σ H1 ⟨s1, hd1, x, y, rfl⟩
      have e : (((eds.length : Nat) : Int) - 1).toNat = eds.length - 1 := by omega
      rw [e] at hd1
      exact ⟨_, rfl, k d H1 hd0 s1 hd1⟩
/-! History.__init__, of lists where all is well; what stands in a History -/
def histFs (e c b d : Addr) : List (Str × V) := [("_editions", .ref e), ("_changes", .ref c), ("_births", .ref b), ("_drops", .ref d)]
theorem hist_put2 (e c : Addr) : putF "_changes" (.ref c) (putF "_editions" (.ref e) []) = ([("_editions", .ref e), ("_changes", .ref c)] : List (Str × V)) := by
  have h1 : ¬ (("_editions" : Str) = "_changes") := by decide +kernel
  simp only [putF, if_neg h1]
theorem hist_put3 (e c b : Addr) : putF "_births" (.ref b) (putF "_changes" (.ref c) (putF "_editions" (.ref e) [])) = ([("_editions", .ref e), ("_changes", .ref c), ("_births", .ref b)] : List (Str × V)) := by
  have h1 : ¬ (("_editions" : Str) = "_births") := by decide +kernel
  have h2 : ¬ (("_changes" : Str) = "_births") := by decide +kernel
  rw [hist_put2]
  simp only [putF, if_neg h1, if_neg h2]
theorem hist_put4 (e c b d : Addr) : putF "_drops" (.ref d) (putF "_births" (.ref b) (putF "_changes" (.ref c) (putF "_editions" (.ref e) []))) = histFs e c b d := by
  have h1 : ¬ (("_editions" : Str) = "_drops") := by decide +kernel
  have h2 : ¬ (("_changes" : Str) = "_drops") := by decide +kernel
  have h3 : ¬ (("_births" : Str) = "_drops") := by decide +kernel
  rw [hist_put3]
  simp only [putF, if_neg h1, if_neg h2, if_neg h3]
  rfl
theorem histFs_editions {e c b d : Addr} : (histFs e c b d).lookup ("_editions" : Str) = some (.ref e) := by
  unfold histFs
  simp [List.lookup]
theorem histFs_changes {e c b d : Addr} : (histFs e c b d).lookup ("_changes" : Str) = some (.ref c) := by
  have h1 : (("_changes" : Str) == "_editions") = false := by decide +kernel
  unfold histFs
  simp [List.lookup, h1]
theorem histFs_births {e c b d : Addr} : (histFs e c b d).lookup ("_births" : Str) = some (.ref b) := by
  have h1 : (("_births" : Str) == "_editions") = false := by decide +kernel
  have h2 : (("_births" : Str) == "_changes") = false := by decide +kernel
  unfold histFs
  simp [List.lookup, h1, h2]
theorem histFs_drops {e c b d : Addr} : (histFs e c b d).lookup ("_drops" : Str) = some (.ref d) := by
  have h1 : (("_drops" : Str) == "_editions") = false := by decide +kernel
  have h2 : (("_drops" : Str) == "_changes") = false := by decide +kernel
  have h3 : (("_drops" : Str) == "_births") = false := by decide +kernel
  unfold histFs
  simp [List.lookup, h1, h2, h3]
/-- the numbers of a beginning are those of the places -/
def Placed (cs : List Col) : Prop := ∀ (i : Nat) (c : Col), cs[i]? = some c → c.num = ((i : Nat) : Int)
theorem bornSame {i : Nat} : ∀ {cs : List Col} {b : List Int}, (∀ c ∈ cs, c.num < b.length) → cs.foldl (bornStep i) b = b
  | [], _, _ => rfl
  | c :: cs, b, h => by
    rw [List.foldl_cons, bornStep_neg (by have := h c List.mem_cons_self; omega)]
    exact bornSame fun c' hc => h c' (List.mem_cons_of_mem _ hc)
theorem bornAll {i : Nat} : ∀ {cs : List Col} {b : List Int}, (∀ j c, cs[j]? = some c → c.num = ((b.length + j : Nat) : Int)) → (cs.foldl (bornStep i) b).length = b.length + cs.length
  | [], _, _ => rfl
  | c :: cs, b, h => by
    have h0 : c.num = b.length := by have := h 0 c rfl; simpa using this
    have ht : ∀ j c', cs[j]? = some c' → c'.num = (((b ++ [(i : Int)]).length + j : Nat) : Int) := fun j c' hc => by
      have := h (j + 1) c' (by simpa using hc)
      rw [List.length_append]
      show c'.num = ((b.length + 1 + j : Nat) : Int)
      omega
    have ih := bornAll (i := i) ht
    have e1 : (b ++ [(i : Int)]).length = b.length + 1 := by rw [List.length_append]; rfl
    rw [List.foldl_cons, bornStep_pos h0, ih, e1, List.length_cons]
    omega
theorem edsTo_get {cs : List Col} {chs : List Ch} {n i : Nat} (h : i < n) : (edsTo cs chs n)[i]? = some (atC cs (chs.take i)).1 := by
  unfold edsTo
  rw [List.getElem?_map, List.getElem?_range h]
  rfl
theorem edsTo_len {cs : List Col} {chs : List Ch} {n : Nat} : (edsTo cs chs n).length = n := by
  unfold edsTo
  rw [List.length_map, List.length_range]
theorem born_step {cs : List Col} {n : Int} {ch : Ch} {i : Nat} {b : List Int} (g : Good cs n) (g2 : Good (behind cs ch n) (numThen ch n)) (hb : (b.length : Int) = n) : (((behind cs ch n).foldl (bornStep i) b).length : Int) = numThen ch n := by
  by_cases k : ch.kind = "add"
  · rw [kind_add k]
    cases ch with
    | add nm gr d =>
      have hs : cs.foldl (bornStep i) b = b := bornSame fun c hc => by rw [hb]; exact (g.ok c hc).2
      rw [show behind cs (.add nm gr d) n = cs ++ [⟨nm, gr, d, n⟩] from rfl, List.foldl_append, hs, List.foldl_cons, List.foldl_nil, bornStep_pos (show n = _ from hb.symm), List.length_append]
      show ((b.length + 1 : Nat) : Int) = _
      omega
    | drop _ => exact absurd (show ("drop" : Str) = "add" from k) (by decide +kernel)
    | rename _ _ => exact absurd (show ("rename" : Str) = "add" from k) (by decide +kernel)
    | dflt _ _ => exact absurd (show ("default" : Str) = "add" from k) (by decide +kernel)
    | great _ _ _ => exact absurd (show ("greatest" : Str) = "add" from k) (by decide +kernel)
    | fill _ _ => exact absurd (show ("fill" : Str) = "add" from k) (by decide +kernel)
  · rw [kind_noadd k] at g2 ⊢
    have hs : (behind cs ch n).foldl (bornStep i) b = b := bornSame fun c hc => by rw [hb]; exact (g2.ok c hc).2
    rw [hs]
    exact hb
theorem born_zero {cs : List Col} {chs : List Ch} (pl : Placed cs) : ((bornTo (edsTo cs chs (chs.length + 1)) 1).length : Int) = (cs.length : Int) := by
  show (((List.getD (edsTo cs chs (chs.length + 1)) 0 []).foldl (bornStep 0) []).length : Int) = (cs.length : Int)
  rw [List.getD_eq_getElem?_getD, edsTo_get (by omega)]
  show ((cs.foldl (bornStep 0) []).length : Int) = _
  have ha := bornAll (i := 0) (cs := cs) (b := []) fun j c hc => by rw [pl j c hc]; simp
  rw [ha]
  simp
theorem Fits.born {cs : List Col} {chs : List Ch} (pl : Placed cs) (g : Good cs cs.length) (f : Fits cs chs) (i : Nat) (h : i ≤ chs.length) : ((bornTo (edsTo cs chs (chs.length + 1)) (i + 1)).length : Int) = (atC cs (chs.take i)).2 := by
  induction i with
  | zero => exact born_zero pl
  | succ i ih =>
    have ih := ih (by omega)
    obtain ⟨ch, e⟩ : ∃ ch, chs[i]? = some ch := ⟨_, List.getElem?_eq_getElem (by omega)⟩
    have gd := f.good g i (by omega)
    have gd2 := gd.step (f i _ e).1 (f i _ e).2
    have eb : bornTo (edsTo cs chs (chs.length + 1)) (i + 1 + 1) = (behind (atC cs (chs.take i)).1 ch (atC cs (chs.take i)).2).foldl (bornStep (i + 1)) (bornTo (edsTo cs chs (chs.length + 1)) (i + 1)) := by
      show (List.getD (edsTo cs chs (chs.length + 1)) (i + 1) []).foldl (bornStep (i + 1)) _ = _
      rw [List.getD_eq_getElem?_getD, edsTo_get (by omega), atC_snoc e]
      rfl
    rw [atC_snoc e, eb]
    exact born_step gd gd2 ih
theorem grow1 {cs : List Col} {chs : List Ch} (j : Nat) : (atC cs (chs.take j)).2 ≤ (atC cs (chs.take (j + 1))).2 := by
  cases hj : chs[j]? with
  | none =>
    have : chs.take (j + 1) = chs.take j := by rw [List.take_add_one, hj]; simp
    rw [this]
    exact Int.le_refl _
  | some ch =>
    rw [atC_snoc hj]
    show _ ≤ numThen ch (atC cs (chs.take j)).2
    by_cases k : ch.kind = "add"
    · rw [kind_add k]
      omega
    · rw [kind_noadd k]
      exact Int.le_refl _
theorem grows {cs : List Col} {chs : List Ch} {i j : Nat} (h : i ≤ j) : (atC cs (chs.take i)).2 ≤ (atC cs (chs.take j)).2 := by
  induction j with
  | zero =>
    obtain rfl : i = 0 := by omega
    exact Int.le_refl _
  | succ j ih =>
    by_cases e : i = j + 1
    · rw [e]
      exact Int.le_refl _
    · exact Int.le_trans (ih (by omega)) (grow1 j)
/-- a History stands at h: its first columns (numbered) and its changes -/
def bornH (cs : List Col) (chs : List Ch) : List Int := bornOf (edsTo cs chs (chs.length + 1))
def HistAt (K : PySem.W.Frag) (H : Hp) (h : Addr) (cs : List Col) (chs : List Ch) : Prop := ∃ (dx e c b d : Addr) (es ts : List Addr), H h = some (.ins (He.ga K "History") dx (histFs e c b d)) ∧ H e = some (.lst (es.map V.ref)) ∧ Eds K H es (edsTo cs chs (chs.length + 1)) ∧ H c = some (.lst (ts.map V.ref)) ∧ Chs K H ts chs ∧
  H b = some (.lst ((bornH cs chs).map V.int)) ∧ H d = some (.lst (dropOf (edsTo cs chs (chs.length + 1)) (bornH cs chs).length))
theorem HistAt.keep {K : PySem.W.Frag} {H H' : Hp} {h : Addr} {cs : List Col} {chs : List Ch} (s : Same H H') (q : HistAt K H h cs chs) : HistAt K H' h cs chs := by
  obtain ⟨dx, e, c, b, d, es, ts, h1, h2, h3, h4, h5, h6, h7⟩ := q
  exact ⟨dx, e, c, b, d, es, ts, s _ _ h1, s _ _ h2, h3.keep s, s _ _ h4, h5.keep s, s _ _ h6, s _ _ h7⟩
/-- a History whose lists of births and drops were not there at H0 -/
def HistN (K : PySem.W.Frag) (H0 H : Hp) (h : Addr) (cs : List Col) (chs : List Ch) : Prop := ∃ (dx e c b d : Addr) (es ts : List Addr), (H h = some (.ins (He.ga K "History") dx (histFs e c b d)) ∧ H e = some (.lst (es.map V.ref)) ∧ Eds K H es (edsTo cs chs (chs.length + 1)) ∧ H c = some (.lst (ts.map V.ref)) ∧ Chs K H ts chs ∧
  H b = some (.lst ((bornH cs chs).map V.int)) ∧ H d = some (.lst (dropOf (edsTo cs chs (chs.length + 1)) (bornH cs chs).length))) ∧ H0 b = none ∧ H0 d = none
theorem HistN.at_ {K : PySem.W.Frag} {H0 H : Hp} {h : Addr} {cs : List Col} {chs : List Ch} (q : HistN K H0 H h cs chs) : HistAt K H h cs chs := by
  obtain ⟨dx, e, c, b, d, es, ts, q, _⟩ := q
  exact ⟨dx, e, c, b, d, es, ts, q⟩
/-- what may be a History: columns numbered by places, changes that can be done -/
structure HistOk (cs : List Col) (chs : List Ch) : Prop where
  pl : Placed cs
  g : Good cs cs.length
  f : Fits cs chs
  few : chs.length ≤ 40
theorem HistOk.born {cs : List Col} {chs : List Ch} (o : HistOk cs chs) : ((bornH cs chs).length : Int) = (atC cs chs).2 := by
  have := o.f.born o.pl o.g chs.length (Nat.le_refl _)
  rw [List.take_length] at this
  unfold bornH bornOf
  rw [edsTo_len]
  exact this
theorem HistOk.nums {cs : List Col} {chs : List Ch} (o : HistOk cs chs) : ∀ cs' ∈ edsTo cs chs (chs.length + 1), ∀ c ∈ cs', 0 ≤ c.num ∧ c.num < (bornH cs chs).length := by
  intro cs' hc' c hc
  obtain ⟨i, hi, rfl⟩ := List.mem_map.mp hc'
  have hi' : i ≤ chs.length := by have := List.mem_range.mp hi; omega
  have gd := o.f.good o.g i hi'
  have := (gd.ok c hc).2
  have e := grows (cs := cs) (chs := chs) hi'
  rw [List.take_length] at e
  rw [o.born]
  exact ⟨(gd.ok c hc).1.nu, by omega⟩
theorem HistOk.few6 {cs : List Col} {chs : List Ch} (o : HistOk cs chs) : ∀ cs' ∈ edsTo cs chs (chs.length + 1), cs'.length ≤ 1000 := by
  intro cs' hc'
  obtain ⟨i, hi, rfl⟩ := List.mem_map.mp hc'
  have hi' : i ≤ chs.length := by have := List.mem_range.mp hi; omega
  have := (o.f.good o.g i hi').six
  omega
theorem placed_numb (cs : List Col) : Placed (numb cs) := by
  intro i c h
  unfold numb at h
  rw [List.getElem?_mapIdx, Option.map_eq_some_iff] at h
  obtain ⟨c', _, e⟩ := h
  rw [← e]
def sp_Hist_init (K : PySem.W.Frag) : Sp := fun vs H Q _ => ∃ (h dx l t : Addr) (as ts : List Addr) (cs : List Col) (chs : List Ch), vs = [.ref h, .ref l, .ref t] ∧ H h = some (.ins (He.ga K "History") dx []) ∧ H l = some (.lst (as.map V.ref)) ∧ Cols K H as cs ∧ H t = some (.lst (ts.map V.ref)) ∧ Chs K H ts chs ∧
  (∀ c ∈ cs, ColOk c) ∧ HistOk (numb cs) chs ∧ ∀ (H' : Hp), HistN K H H' h (numb cs) chs → (∀ (b : Addr) (o : HO), b ≠ h → H b = some o → H' b = some o) → Q .non H'
def sp_Hist_initB (K : PySem.W.Frag) : Sp := fun vs H Q _ => ∃ (h dx l t : Addr) (as ts : List Addr) (cs : List Col) (chs : List Ch) (bb : Bool), vs = [.ref h, .ref l, .ref t] ∧ H h = some (.ins (He.ga K "History") dx []) ∧ H l = some (.lst (as.map V.ref)) ∧ Cols K H as cs ∧ SqB K bb H t (ts.map V.ref) ∧ Chs K H ts chs ∧
  (∀ c ∈ cs, ColOk c) ∧ HistOk (numb cs) chs ∧ ∀ (H' : Hp), HistN K H H' h (numb cs) chs → (∀ (b : Addr) (o : HO), b ≠ h → H b = some o → H' b = some o) → Q .non H'
theorem numb_names (cs : List Col) : (numb cs).map (·.name) = cs.map (·.name) := by
  unfold numb
  refine List.ext_getElem? fun i => ?_
  rw [List.getElem?_map, List.getElem?_mapIdx, List.getElem?_map]
  cases cs[i]? <;> rfl
theorem numb_len (cs : List Col) : (numb cs).length = cs.length := by unfold numb; rw [List.length_mapIdx]
/-- all but what stands at h is as it was -/
def Up (h : Addr) (H H' : Hp) : Prop := ∀ b o, b ≠ h → H b = some o → H' b = some o
theorem Cols.up {K : PySem.W.Frag} {H H' : Hp} {h C dx : Addr} {fs : List (Str × V)} (u : Up h H H') (hh : H h = some (.ins C dx fs)) (nf : fs.lookup ("name" : Str) = none) : ∀ {as : List Addr} {cs : List Col}, Cols K H as cs → Cols K H' as cs
  | _, _, .nil => .nil
  | _, _, .cons (a := a) (c := c) q t => .cons (by
      obtain ⟨dy, q⟩ := q
      refine ⟨dy, u _ _ (fun z => ?_) q⟩
      rw [z, hh] at q
      have e := (HO.ins.inj (Option.some.inj q)).2.2
      rw [e, colFs_name] at nf
      cases nf) (t.up u hh nf)
theorem Eds.up {K : PySem.W.Frag} {H H' : Hp} {h C dx : Addr} {fs : List (Str × V)} (u : Up h H H') (hh : H h = some (.ins C dx fs)) (nf : fs.lookup ("name" : Str) = none) : ∀ {es : List Addr} {eds : List (List Col)}, Eds K H es eds → Eds K H' es eds
  | _, _, .nil => .nil
  | _, _, .cons as q c t => .cons as (u _ _ (fun z => by rw [z, hh] at q; cases q) q) (c.up u hh nf) (t.up u hh nf)
theorem Chs.up {K : PySem.W.Frag} {H H' : Hp} {h C dx : Addr} {fs : List (Str × V)} (u : Up h H H') (hh : H h = some (.ins C dx fs)) : ∀ {as : List Addr} {cs : List Ch}, Chs K H as cs → Chs K H' as cs
  | _, _, .nil => .nil
  | _, _, .cons q t => .cons (by
      rcases q with (q | ⟨o, q⟩) | q
      · exact .inl (.inl (u _ _ (fun z => by rw [z, hh] at q; cases q) q))
      · exact .inl (.inr ⟨o, u _ _ (fun z => by rw [z, hh] at q; cases q) q⟩)
      · exact .inr q) (t.up u hh)
theorem lk_e2 {e c : Addr} : ([("_editions", .ref e), ("_changes", .ref c)] : List (Str × V)).lookup ("_editions" : Str) = some (.ref e) := by simp [List.lookup]
theorem lk_e3 {e c b : Addr} : ([("_editions", .ref e), ("_changes", .ref c), ("_births", .ref b)] : List (Str × V)).lookup ("_editions" : Str) = some (.ref e) := by simp [List.lookup]
theorem lk_b3 {e c b : Addr} : ([("_editions", .ref e), ("_changes", .ref c), ("_births", .ref b)] : List (Str × V)).lookup ("_births" : Str) = some (.ref b) := by
  have h1 : (("_births" : Str) == "_editions") = false := by decide +kernel
  have h2 : (("_births" : Str) == "_changes") = false := by decide +kernel
  simp [List.lookup, h1, h2]
theorem ok_Hist_initB (T : Tx K mg) : ∃ fd, FnOk P w K mg base CX0 11 (He.ma K (He.ga K "History") "__init__") fd ["self", "columns", "changes"] (sp_Hist_initB K) ∧
    FunD K "__init__" "History.__init__" (defArgs s_History___init__) (defBody s_History___init__) (defScope s_History___init__) (d_History___init__.dvs K) (d_History___init__.kws K) (He.ma K (He.ga K "History") "__init__") fd := by
  have C1 := (ok_numbered_columns (P := P) (w := w) (base := base) T).up (show 7 ≤ 10 by decide)
  have C2 := (ok_columns_of_editions (P := P) (w := w) (base := base) T).up (show 9 ≤ 10 by decide)
  have C3 := (ok_births (P := P) (w := w) (base := base) T).up (show 1 ≤ 10 by decide)
  have C4 := (ok_drops (P := P) (w := w) (base := base) T).up (show 3 ≤ 10 by decide)
  obtain ⟨fd, F⟩ := fd_History___init__ T
  refine ⟨fd, F.ok (CX := CX0) sc_History___init__ (fun vs H Q E h => ?_) (fun cdv A outer s H vs Q E hr h => ?_), F⟩
  · obtain ⟨h, dx, l, t, as, ts, cs, chs, bb, rfl, _⟩ := h
    rfl
  suffices hh : ∃ t, PSs (cxOf CX0 P w K mg base ["self", "columns", "changes"] "History.__init__" (defScope s_History___init__) (He.ma K (He.ga K "History") "__init__") cdv A outer s H E).nox (defBody s_History___init__) t ∧
      t { nx := fun _ H' => Q .non H', rt := Q } (start ["self", "columns", "changes"] vs) H by
    obtain ⟨t, h1, h2⟩ := hh
    exact ⟨t, h1.nox, h2⟩
  obtain ⟨h, dx, l, t, as, ts, cs, chs, bb, rfl, hh, hl, hc, ht, hch, hok, ho, k⟩ := h
  have cl := cl_History T
  refine ⟨_, pss_cons (ps_fld (pv 0) (pcall C2 hr (pa_cons (pcall C1 hr (pa_cons (pv 1) pa_nil)) (pa_cons (pv 2) pa_nil))) rfl)
    (pss_cons (ps_fld (pv 0) (pe_callTy call_list_of (by rfl) (fr_list T) (by decide +kernel) (pa_cons (pv 2) pa_nil)) rfl)
    (pss_cons (ps_fld (pv 0) (pcall C3 hr (pa_cons (pe_fld (pv 0) rfl) pa_nil)) rfl)
    (pss_one (ps_fld (pv 0) (pcall C4 hr (pa_cons (pe_fld (pv 0) rfl) (pa_cons (pe_callB call_len_seq (by rfl) (fr_len T) PySem.boot_len (pa_cons (pe_fld (pv 0) rfl) pa_nil)) pa_nil))) rfl)))), ?_⟩
  have one : 1 ≤ cs.length := by have := ho.g.one; rw [numb_len] at this; exact this
  have six : cs.length ≤ 6 := by have := ho.g.six; rw [numb_len] at this; exact this
  have nms : (cs.map (·.name)).Nodup := by have := ho.g.names; rw [numb_names] at this; exact this
  refine ⟨_, rfl, l, as, cs, rfl, hl, hc, one, six, nms, hok, fun l1 as1 H1 n1 s1 h1 c1 => ⟨_, rfl, l1, t, as1, ts, numb cs, chs, bb, rfl, h1, c1, ht.keep s1, hch.keep s1, ho.g, ho.f, ho.few, fun e es H2 n2 s2 he hE => ?_⟩⟩
  have s02 := s1.trans s2
  have hh2 := s02 _ _ hh
  have lk : ([] : List (Str × V)).lookup ("name" : Str) = none := rfl
  have eh : e ≠ h := fun z => by rw [z, hh2] at he; cases he
  refine ⟨_, rfl, h, _, dx, _, rfl, hh2, cl, na_History__editions T, (by show 0 < 1000; decide), ?_⟩
  have u3 : Up h H2 (upd H2 h (.ins (He.ga K "History") dx [("_editions", .ref e)])) := fun b o nb q => by rw [upd_ne nb]; exact q
  have hh3 : upd H2 h (.ins (He.ga K "History") dx [("_editions", .ref e)]) h = some (.ins (He.ga K "History") dx [("_editions", .ref e)]) := upd_same
  show tSeq _ _ _ _ (upd H2 h (.ins (He.ga K "History") dx [("_editions", .ref e)]))
  generalize upd H2 h (.ins (He.ga K "History") dx [("_editions", .ref e)]) = H3 at u3 hh3 ⊢
  have ht3 : SqB K bb H3 t (ts.map V.ref) := (ht.keep s02).up u3 hh2
  refine ⟨_, rfl, t, _, rfl, ht3.or, fun c nc => ?_⟩
  have hc4 : upd H3 c (.lst (ts.map V.ref)) c = some (.lst (ts.map V.ref)) := upd_same
  have u4 : Up h H2 (upd H3 c (.lst (ts.map V.ref))) := fun b o nb q => same_new nc _ _ (u3 b o nb q)
  have hh4 : upd H3 c (.lst (ts.map V.ref)) h = some (.ins (He.ga K "History") dx [("_editions", .ref e)]) := same_new nc _ _ hh3
  have ch : c ≠ h := fun z => by rw [z, hh3] at nc; cases nc
  generalize upd H3 c (.lst (ts.map V.ref)) = H4 at u4 hh4 hc4 ⊢
  refine ⟨_, rfl, h, _, dx, _, rfl, hh4, cl, na_History__changes T, (by show 1 < 1000; decide), ?_⟩
  rw [show putF ("_changes" : Str) (.ref c) [("_editions", .ref e)] = ([("_editions", .ref e), ("_changes", .ref c)] : List (Str × V)) from hist_put2 e c]
  have u5 : Up h H2 (upd H4 h (.ins (He.ga K "History") dx [("_editions", .ref e), ("_changes", .ref c)])) := fun b o nb q => by rw [upd_ne nb]; exact u4 b o nb q
  have hh5 : upd H4 h (.ins (He.ga K "History") dx [("_editions", .ref e), ("_changes", .ref c)]) h = some (.ins (He.ga K "History") dx [("_editions", .ref e), ("_changes", .ref c)]) := upd_same
  have hc5 : upd H4 h (.ins (He.ga K "History") dx [("_editions", .ref e), ("_changes", .ref c)]) c = some (.lst (ts.map V.ref)) := by rw [upd_ne ch]; exact hc4
  generalize upd H4 h (.ins (He.ga K "History") dx [("_editions", .ref e), ("_changes", .ref c)]) = H5 at u5 hh5 hc5 ⊢
  have hE5 : Eds K H5 es (edsTo (numb cs) chs (chs.length + 1)) := hE.up u5 hh2 lk
  have he5 := u5 _ _ eh he
  refine ⟨_, rfl, h, _, dx, _, _, rfl, hh5, cl, na_History__editions T, lk_e2, e, es, _, rfl, he5, hE5, by rw [edsTo_len]; have := ho.few; omega, ho.few6, fun b H6 n6 s6 hb6 => ?_⟩
  have u6 : Up h H2 H6 := fun b o nb q => s6 _ _ (u5 b o nb q)
  have hh6 := s6 _ _ hh5
  have hc6 := s6 _ _ hc5
  have bh : b ≠ h := fun z => by rw [z, hh5] at n6; cases n6
  refine ⟨_, rfl, h, _, dx, _, rfl, hh6, cl, na_History__births T, (by show 2 < 1000; decide), ?_⟩
  rw [show putF ("_births" : Str) (.ref b) [("_editions", .ref e), ("_changes", .ref c)] = ([("_editions", .ref e), ("_changes", .ref c), ("_births", .ref b)] : List (Str × V)) by rw [← hist_put2 e c]; exact hist_put3 e c b]
  have u7 : Up h H2 (upd H6 h (.ins (He.ga K "History") dx [("_editions", .ref e), ("_changes", .ref c), ("_births", .ref b)])) := fun b o nb q => by rw [upd_ne nb]; exact u6 b o nb q
  have hh7 : upd H6 h (.ins (He.ga K "History") dx [("_editions", .ref e), ("_changes", .ref c), ("_births", .ref b)]) h = some (.ins (He.ga K "History") dx [("_editions", .ref e), ("_changes", .ref c), ("_births", .ref b)]) := upd_same
  have hc7 : upd H6 h (.ins (He.ga K "History") dx [("_editions", .ref e), ("_changes", .ref c), ("_births", .ref b)]) c = some (.lst (ts.map V.ref)) := by rw [upd_ne ch]; exact hc6
  have hb7 : upd H6 h (.ins (He.ga K "History") dx [("_editions", .ref e), ("_changes", .ref c), ("_births", .ref b)]) b = some (.lst ((bornH (numb cs) chs).map V.int)) := by rw [upd_ne bh]; exact hb6
  generalize upd H6 h (.ins (He.ga K "History") dx [("_editions", .ref e), ("_changes", .ref c), ("_births", .ref b)]) = H7 at u7 hh7 hc7 hb7 ⊢
  have hE7 : Eds K H7 es (edsTo (numb cs) chs (chs.length + 1)) := hE.up u7 hh2 lk
  have he7 := u7 _ _ eh he
  have bl : (bornH (numb cs) chs).length ≤ 100000 := by
    have h1 := bornTo_len ho.few6 (edsTo (numb cs) chs (chs.length + 1)).length
    have h2 : (edsTo (numb cs) chs (chs.length + 1)).length ≤ 41 := by rw [edsTo_len]; have := ho.few; omega
    show (bornTo (edsTo (numb cs) chs (chs.length + 1)) _).length ≤ _
    omega
  refine ⟨_, rfl, h, _, dx, _, _, rfl, hh7, cl, na_History__editions T, lk_e3, _, rfl, h, _, dx, _, _, rfl, hh7, cl, na_History__births T, lk_b3, b, _, rfl, .inl (sqL_of hb7), e, es, _, (bornH (numb cs) chs).length, by rw [List.length_map]; rfl, he7, hE7, by rw [edsTo_len]; omega, by rw [edsTo_len]; have := ho.few; omega, bl, ho.nums, fun d H8 n8 s8 hd8 => ?_⟩
  have u8 : Up h H2 H8 := fun b o nb q => s8 _ _ (u7 b o nb q)
  have hh8 := s8 _ _ hh7
  have hc8 := s8 _ _ hc7
  have hb8 := s8 _ _ hb7
  have dh : d ≠ h := fun z => by rw [z, hh7] at n8; cases n8
  refine ⟨_, rfl, h, _, dx, _, rfl, hh8, cl, na_History__drops T, (by show 3 < 1000; decide), ?_⟩
  rw [show putF ("_drops" : Str) (.ref d) [("_editions", .ref e), ("_changes", .ref c), ("_births", .ref b)] = histFs e c b d by rw [← hist_put3 e c b]; exact hist_put4 e c b d]
  have u9 : Up h H2 (upd H8 h (.ins (He.ga K "History") dx (histFs e c b d))) := fun b o nb q => by rw [upd_ne nb]; exact u8 b o nb q
  have fb : H b = none := by
    cases hb0 : H b with
    | none => rfl
    | some o =>
      rw [u5 _ _ bh (s02 _ _ hb0)] at n6
      cases n6
  have fd0 : H d = none := by
    cases hd0 : H d with
    | none => rfl
    | some o =>
      rw [u7 _ _ dh (s02 _ _ hd0)] at n8
      cases n8
  refine k _ ⟨dx, e, c, b, d, es, ts, ⟨upd_same, u9 _ _ eh he, hE.up u9 hh2 lk, by rw [upd_ne ch]; exact hc8, (hch.keep s02).up u9 hh2, by rw [upd_ne bh]; exact hb8, by rw [upd_ne dh]; exact hd8⟩, fb, fd0⟩ fun b' o nb' q => u9 _ _ nb' (s02 _ _ q)
theorem ok_Hist_init (T : Tx K mg) : ∃ fd, FnOk P w K mg base CX0 11 (He.ma K (He.ga K "History") "__init__") fd ["self", "columns", "changes"] (sp_Hist_init K) ∧
    FunD K "__init__" "History.__init__" (defArgs s_History___init__) (defBody s_History___init__) (defScope s_History___init__) (d_History___init__.dvs K) (d_History___init__.kws K) (He.ma K (He.ga K "History") "__init__") fd := by
  obtain ⟨fd, G, F⟩ := ok_Hist_initB (P := P) (w := w) (base := base) T
  refine ⟨fd, G.imp fun vs H Q E h => ?_, F⟩
  obtain ⟨h, dx, l, t, as, ts, cs, chs, e, hh, hl, hc, ht, hch, hok, ho, k⟩ := h
  exact ⟨h, dx, l, t, as, ts, cs, chs, false, e, hh, hl, hc, sqL_of ht, hch, hok, ho, k⟩
/-! len(history) -/
theorem histNo {K : PySem.W.Frag} {H : Hp} {h : Addr} {cs : List Col} {chs : List Ch} (q : HistAt K H h cs chs) : ∃ dx fs, H h = some (.ins (He.ga K "History") dx fs) := by
  obtain ⟨dx, e, c, b, d, _, _, q, _⟩ := q
  exact ⟨dx, _, q⟩
def sp_Hist_len (K : PySem.W.Frag) : Sp := fun vs H Q _ => ∃ (h : Addr) (cs : List Col) (chs : List Ch), vs = [.ref h] ∧ HistAt K H h cs chs ∧ Q (.int (chs.length : Nat)) H
theorem ok_Hist_len (T : Tx K mg) : ∃ fd, FnOk P w K mg base CX0 1 (He.ma K (He.ga K "History") "__len__") fd ["self"] (sp_Hist_len K) ∧ Binds K fd ["self"] [] := by
  obtain ⟨fd, F⟩ := fd_History___len__ T
  refine ⟨fd, F.ok (CX := CX0) sc_History___len__ (fun vs H Q E h => ?_) (fun cdv A outer s H vs Q E hr h => ?_), F.bindsN fun _ _ _ _ _ _ us hl => match us, hl with | [_], _ => rfl⟩
  · obtain ⟨h, cs, chs, rfl, _⟩ := h
    rfl
  suffices hh : ∃ t, PSs (cxOf CX0 P w K mg base ["self"] "History.__len__" (defScope s_History___len__) (He.ma K (He.ga K "History") "__len__") cdv A outer s H E).nox (defBody s_History___len__) t ∧
      t { nx := fun _ H' => Q .non H', rt := Q } (start ["self"] vs) H by
    obtain ⟨t, h1, h2⟩ := hh
    exact ⟨t, h1.nox, h2⟩
  obtain ⟨h, cs, chs, rfl, ⟨dx, e, c, b, d, es, ts, hh, he, hE, hc, hC, hb, hd⟩, k⟩ := h
  refine ⟨_, pss_one (ps_ret (pe_callB call_len_seq (by rfl) (fr_len T) PySem.boot_len (pa_cons (pe_fld (pv 0) rfl) pa_nil))), ?_⟩
  refine ⟨_, rfl, h, _, dx, _, _, rfl, hh, cl_History T, na_History__changes T, histFs_changes, c, _, rfl, .inl (sqL_of hc), ?_⟩
  rw [List.length_map, hC.len]
  exact k
/-! is_edition -/
def isEd (n : Nat) : V → Bool
  | .int i => decide (0 ≤ i) && decide (i ≤ (n : Nat))
  | _ => false
def sp_is_edition (K : PySem.W.Frag) : Sp := fun vs H Q _ => ∃ (h : Addr) (cs : List Col) (chs : List Ch) (x : V) (t : String), vs = [.ref h, x] ∧ HistAt K H h cs chs ∧ chs.length ≤ 1000 ∧ TyX K H x (.type t) ∧ Q (.bl (isEd chs.length x)) H
theorem ok_is_edition (T : Tx K mg) : Callee P w K mg base CX0 3 "is_edition" ["history", "value"] [] (sp_is_edition K) := by
  have C1 := (ok_is_whole (P := P) (w := w) (base := base) T).up (show 1 ≤ 2 by decide)
  obtain ⟨fdL, FL, bL⟩ := ok_Hist_len (P := P) (w := w) (base := base) T
  refine mkCallee (fd_is_edition T) (mg_is_edition T) sc_is_edition (fun _ _ _ _ _ _ us hl => match us, hl with | [_, _], _ => rfl) (fun vs H Q E h => ?_) (fun cdv A outer s H vs Q E hr h => ?_)
  · obtain ⟨h, cs, chs, x, t, rfl, _⟩ := h
    rfl
  · obtain ⟨h, cs, chs, x, t, rfl, hh, few, ty, k⟩ := h
    obtain ⟨dx, fs, hi⟩ := histNo hh
    refine ⟨_, pss_one (ps_ret (pe_and (pcall C1 hr (pa_cons (pv 1) pa_nil)) (pe_one (pe_chain op_le op_le pe_int (pv 1) (pe_callB (call_lenOwn FL (me_History___len__ T) hr bL pass0) (by rfl) (fr_len T) PySem.boot_len (pa_cons (pv 0) pa_nil)))))), ?_⟩
    refine ⟨_, rfl, x, t, rfl, ty, _, rfl, ?_⟩
    cases x with
    | int i =>
      refine iteT ⟨_, rfl, _, _, rfl, rfl, _, rfl, ?_⟩
      have e : isEd chs.length (.int i) = (decide (0 ≤ i) && decide (i ≤ (chs.length : Nat))) := rfl
      rw [e] at k
      cases h1 : decide (0 ≤ i) with
      | false =>
        rw [h1] at k
        exact k
      | true =>
        rw [h1] at k
        exact ⟨_, rfl, h, dx, fs, rfl, hi, h, cs, chs, rfl, hh, _, rfl, ⟨by omega, by omega⟩, _, _, rfl, rfl, k⟩
    | _ => exact iteF k
/-! edition_of, of what is an edition, or None -/
def edOf (n : Nat) : V → Int
  | .int i => i
  | _ => n
def sp_edition_of (K : PySem.W.Frag) : Sp := fun vs H Q _ => ∃ (h : Addr) (cs : List Col) (chs : List Ch) (x : V), vs = [.ref h, x] ∧ HistAt K H h cs chs ∧ chs.length ≤ 1000 ∧ (x = .non ∨ isEd chs.length x = true) ∧ Q (.int (edOf chs.length x)) H
theorem ok_edition_of (T : Tx K mg) : Callee P w K mg base CX0 4 "edition_of" ["history", "edition"] [] (sp_edition_of K) := by
  have C1 := ok_is_edition (P := P) (w := w) (base := base) T
  obtain ⟨fdL, FL, bL⟩ := ok_Hist_len (P := P) (w := w) (base := base) T
  refine mkCallee (fd_edition_of T) (mg_edition_of T) sc_edition_of (fun _ _ _ _ _ _ us hl => match us, hl with | [_, _], _ => rfl) (fun vs H Q E h => ?_) (fun cdv A outer s H vs Q E hr h => ?_)
  · obtain ⟨h, cs, chs, x, rfl, _⟩ := h
    rfl
  · obtain ⟨h, cs, chs, x, rfl, hh, few, hx, k⟩ := h
    obtain ⟨dx, fs, hi⟩ := histNo hh
    refine ⟨_, pss_cons (ps_if (pt_cmpR op_isN (pv 1) pe_non (nomark _)) (pss_one (ps_ret (pe_callB (call_lenOwn FL (me_History___len__ T) (hr.mono (by decide)) bL pass0) (by rfl) (fr_len T) PySem.boot_len (pa_cons (pv 0) pa_nil)))) pss_nil)
      (pss_cons (ps_if (pt_not (pt_val (pcall C1 hr (pa_cons (pv 0) (pa_cons (pv 1) pa_nil))))) (pss_one ps_never) pss_nil) (pss_one (ps_ret (pv 1)))), ?_⟩
    rcases hx with rfl | hx
    · exact ⟨_, rfl, rfl, _, rfl, iteDT rfl ⟨_, rfl, h, dx, fs, rfl, hi, h, cs, chs, rfl, hh, _, rfl, ⟨by omega, by omega⟩, k⟩⟩
    · cases x with
      | int i =>
        refine ⟨_, rfl, rfl, _, rfl, iteD (fun z => by cases z) ⟨_, rfl, _, rfl, h, cs, chs, .int i, _, rfl, hh, few, .base (.int i), _, rfl, ?_⟩⟩
        rw [hx]
        exact iteF ⟨_, rfl, k⟩
      | _ => cases hx
/-! x[i] of an instance with an own __getitem__ -/
section
variable {X : Cx} {CX : CXT} {k : Nat} {f C : Addr} {fd : FuncData} {ps : List Str} {sp : Sp} {E : XK}
def rIxOwn (C : Addr) (sp : Sp) (E : XK) : R2 := fun x y H Q => ∃ (a dx : Addr) (fs : List (Str × V)), x = .ref a ∧ H a = some (.ins C dx fs) ∧ sp [x, y] H Q E
theorem pe_ixOwn {a b : Expr} {pos : Pos} {ta tb : TE} (F : FnOk X.prog X.w X.K X.mg X.base CX k f fd ps sp) (hm : Meth X.K C "__getitem__" f) (hf : PySem.W.fnIn X.K f = true) (hr : Room (k + 1) X.A) (hb : Binds X.K fd ps []) (hx : Passes CX X E) (ha : PE X a ta) (hb2 : PE X b tb)
    (hl : ∀ (x : Addr) (i : Value), subscripted b true (.ref x) i = runValue (.builtin "lifetime.subscript" ⟨[.ref x, i], []⟩)) : PE X (.Subscript a b pos) (tOp (rIxOwn C sp E) ta tb) := by
  refine ⟨fun pins s σ H Q I h => ?_⟩
  refine Subscript_ (binT ha hb2 I h fun v u s2 x y H2 I2 rx ry q => ?_)
  obtain ⟨c, dx, fs, ex, hc, q⟩ := q
  subst ex
  cases (show v = Value.ref c from rx)
  obtain ⟨mA, J, _⟩ := ins_get I2.hok hc
  obtain ⟨od, J, _⟩ := J.look
  obtain ⟨m, hF⟩ := I2.fr
  exact PySem.W.sub_K hF I2.ok.mod.kin J hm.at_ hf hm.fn (runA (us := [.ref c, u]) (vs := [.ref c, y]) F hr.in1 I2.env0.in1 hb hx I2 (.cons rfl (.cons ry .nil)) q) (hl c u)
end

/-! history[i], of an index of a change -/
theorem lref_getAt {as : List Addr} {j : Nat} {a : Addr} (h : as[j]? = some a) : atI (as.map V.ref) ((j : Nat) : Int) = some (.ref a) := by
  have hj := (List.getElem?_eq_some_iff.mp h).1
  unfold atI
  rw [ixN_ok (by omega) (by rw [List.length_map]; omega)]
  show (as.map V.ref)[j]? = _
  rw [List.getElem?_map, h]
  rfl
def sp_Hist_get (K : PySem.W.Frag) : Sp := fun vs H Q _ => ∃ (h : Addr) (cs : List Col) (chs : List Ch) (i : Nat), vs = [.ref h, .int (i : Nat)] ∧ HistAt K H h cs chs ∧ i < chs.length ∧ ∀ (t : Addr) (ch : Ch), chs[i]? = some ch → ChAt K H t ch → Q (.ref t) H
theorem ok_Hist_get (T : Tx K mg) : ∃ fd, FnOk P w K mg base CX0 2 (He.ma K (He.ga K "History") "__getitem__") fd ["self", "at"] (sp_Hist_get K) ∧ Binds K fd ["self", "at"] [] := by
  have C1 := ok_is_whole (P := P) (w := w) (base := base) T
  obtain ⟨fd, F⟩ := fd_History___getitem__ T
  refine ⟨fd, F.ok (CX := CX0) sc_History___getitem__ (fun vs H Q E h => ?_) (fun cdv A outer s H vs Q E hr h => ?_), F.bindsN fun _ _ _ _ _ _ us hl => match us, hl with | [_, _], _ => rfl⟩
  · obtain ⟨h, cs, chs, i, rfl, _⟩ := h
    rfl
  suffices hh : ∃ t, PSs (cxOf CX0 P w K mg base ["self", "at"] "History.__getitem__" (defScope s_History___getitem__) (He.ma K (He.ga K "History") "__getitem__") cdv A outer s H E).nox (defBody s_History___getitem__) t ∧
      t { nx := fun _ H' => Q .non H', rt := Q } (start ["self", "at"] vs) H by
    obtain ⟨t, h1, h2⟩ := hh
    exact ⟨t, h1.nox, h2⟩
  obtain ⟨h, cs, chs, i, rfl, ⟨dx, e, c, b, d, es, ts, hh, he, hE, hc, hC, hb, hd⟩, hi, k⟩ := h
  have cl := cl_History T
  refine ⟨_, pss_cons (ps_if (PW.pt (pw_or (pt_not (pt_val (pcall C1 hr (pa_cons (pv 1) pa_nil)))) (pw_or1 (pt_not (pt_chain op_le op_lt pe_int (pv 1) (pe_callB call_len (by rfl) (fr_len T) PySem.boot_len (pa_cons (pe_fld (pv 0) rfl) pa_nil))))))) (pss_one ps_never) pss_nil)
    (pss_one (ps_ret (pe_ix ix_list (pe_fld (pv 0) rfl) (pv 1) (fun _ _ => rfl)))), ?_⟩
  have hti : i < ts.length := by rw [hC.len]; exact hi
  obtain ⟨ch, hch, hat⟩ := hC.at_ (List.getElem?_eq_getElem hti)
  refine ⟨_, rfl, .int (i : Nat), _, rfl, .base (.int _), _, rfl, iteF ?_⟩
  refine ⟨_, rfl, _, _, rfl, rfl, _, rfl, ?_⟩
  rw [decide_eq_true (show (0 : Int) ≤ ((i : Nat) : Int) by omega)]
  refine iteT ⟨_, rfl, h, _, dx, _, _, rfl, hh, cl, na_History__changes T, histFs_changes, _, chs.length, rfl, .inl ⟨_, sqL_of hc, by rw [List.length_map, hC.len]⟩, _, _, rfl, rfl, _, rfl, ?_⟩
  rw [decide_eq_true (show ((i : Nat) : Int) < ((chs.length : Nat) : Int) by omega)]
  refine iteF (nxt ⟨_, rfl, h, _, dx, _, _, rfl, hh, cl, na_History__changes T, histFs_changes, _, rfl, c, _, ((i : Nat) : Int), _, rfl, rfl, sqL_of hc, lref_getAt (List.getElem?_eq_getElem hti), k _ ch hch hat⟩)
/-! History.first_columns -/
def sp_Hist_first (K : PySem.W.Frag) : Sp := fun vs H Q _ => ∃ (h : Addr) (cs : List Col) (chs : List Ch), vs = [.ref h] ∧ HistAt K H h cs chs ∧
  ∀ (l : Addr) (as : List Addr) (H' : Hp), H l = none → Same H H' → H' l = some (.lst (as.map V.ref)) → Cols K H' as cs → Q (.ref l) H'
theorem ok_Hist_first (T : Tx K mg) : ∃ fd, FnOk P w K mg base CX0 1 (He.ma K (He.ga K "History") "first_columns") fd ["self"] (sp_Hist_first K) ∧ Binds K fd ["self"] [] := by
  refine mkMeth (fd_History_first_columns T) sc_History_first_columns (fun _ _ _ _ _ _ us hl => match us, hl with | [_], _ => rfl) (fun vs H Q E h => ?_) (fun cdv A outer s H vs Q E hr h => ?_)
  · obtain ⟨h, cs, chs, rfl, _⟩ := h
    rfl
  obtain ⟨h, cs, chs, rfl, hq, k⟩ := h
  obtain ⟨dx, e, c, b, d, es, ts, hh, he, hE, hc, hC, hb, hd⟩ := id hq
  have hlen : es.length = chs.length + 1 := by rw [hE.len, edsTo_len]
  have hi : 0 < es.length := by omega
  obtain ⟨cs1, as1, hcs1, hea, hc1⟩ := hE.at_ (List.getElem?_eq_getElem hi)
  rw [edsTo_get (by omega)] at hcs1
  obtain rfl := Option.some.inj hcs1
  refine ⟨_, pss_one (ps_ret (pe_callTy call_list_of (by rfl) (fr_list T) (by decide +kernel) (pa_cons (pe_ix ix_list (pe_fld (pv 0) rfl) pe_int (fun _ _ => rfl)) pa_nil))), ?_⟩
  refine ⟨_, rfl, h, _, dx, _, _, rfl, hh, cl_History T, na_History__editions T, histFs_editions, e, es.map V.ref, 0, .ref es[0], rfl, rfl, sqL_of he, atI_nat (j := 0) (by rw [List.getElem?_map, List.getElem?_eq_getElem hi]; rfl), _, _, rfl, .inl (sqL_of hea), fun l nl => ?_⟩
  exact k l as1 _ nl (same_new nl) upd_same (hc1.keep (same_new nl))
/-! history.columns(edition) -/
theorem isEd_ix {n : Nat} {x : V} (h : x = .non ∨ isEd n x = true) : 0 ≤ edOf n x ∧ edOf n x ≤ (n : Nat) := by
  rcases h with rfl | h
  · exact ⟨by show (0 : Int) ≤ (n : Nat); omega, Int.le_refl _⟩
  · cases x with
    | int i =>
      have h : (decide (0 ≤ i) && decide (i ≤ (n : Nat))) = true := h
      rw [Bool.and_eq_true] at h
      exact ⟨of_decide_eq_true h.1, of_decide_eq_true h.2⟩
    | _ => cases h
def colsAt (cs : List Col) (chs : List Ch) (x : V) : List Col := (atC cs (chs.take (edOf chs.length x).toNat)).1
def sp_Hist_columns (K : PySem.W.Frag) : Sp := fun vs H Q _ => ∃ (h : Addr) (cs : List Col) (chs : List Ch) (x : V), vs = [.ref h, x] ∧ HistAt K H h cs chs ∧ chs.length ≤ 1000 ∧ (x = .non ∨ isEd chs.length x = true) ∧
  ∀ (l : Addr) (as : List Addr) (H' : Hp), H l = none → Same H H' → H' l = some (.lst (as.map V.ref)) → Cols K H' as (colsAt cs chs x) → Q (.ref l) H'
theorem ok_Hist_columns (T : Tx K mg) : ∃ fd, FnOk P w K mg base CX0 5 (He.ma K (He.ga K "History") "columns") fd ["self", "edition"] (sp_Hist_columns K) ∧ Binds K fd ["self", "edition"] [] ∧ ∃ ds, Vals [V.non] ds ∧ Binds K fd ["self", "edition"] ds := by
  have C1 := ok_edition_of (P := P) (w := w) (base := base) T
  obtain ⟨fd, F⟩ := fd_History_columns T
  refine ⟨fd, F.ok (CX := CX0) sc_History_columns (fun vs H Q E h => ?_) (fun cdv A outer s H vs Q E hr h => ?_), ?_, ?_⟩
  · obtain ⟨h, cs, chs, x, rfl, _⟩ := h
    rfl
  · suffices hh : ∃ t, PSs (cxOf CX0 P w K mg base ["self", "edition"] "History.columns" (defScope s_History_columns) (He.ma K (He.ga K "History") "columns") cdv A outer s H E).nox (defBody s_History_columns) t ∧
        t { nx := fun _ H' => Q .non H', rt := Q } (start ["self", "edition"] vs) H by
      obtain ⟨t, h1, h2⟩ := hh
      exact ⟨t, h1.nox, h2⟩
    obtain ⟨h, cs, chs, x, rfl, hq, few, hx, k⟩ := h
    obtain ⟨dx, e, c, b, d, es, ts, hh, he, hE, hc, hC, hb, hd⟩ := id hq
    have bd := isEd_ix hx
    have hlen : es.length = chs.length + 1 := by rw [hE.len, edsTo_len]
    have hi : (edOf chs.length x).toNat < es.length := by omega
    obtain ⟨cs1, as1, hcs1, hea, hc1⟩ := hE.at_ (List.getElem?_eq_getElem hi)
    rw [edsTo_get (by omega)] at hcs1
    obtain rfl := Option.some.inj hcs1
    refine ⟨_, pss_one (ps_ret (pe_callTy call_list_of (by rfl) (fr_list T) (by decide +kernel) (pa_cons (pe_ix ix_list (pe_fld (pv 0) rfl) (pcall C1 hr (pa_cons (pv 0) (pa_cons (pv 1) pa_nil))) (fun _ _ => rfl)) pa_nil))), ?_⟩
    refine ⟨_, rfl, h, _, dx, _, _, rfl, hh, cl_History T, na_History__editions T, histFs_editions, _, rfl, _, rfl, h, cs, chs, x, rfl, hq, few, hx, e, es.map V.ref, edOf chs.length x, .ref es[(edOf chs.length x).toNat], rfl, rfl, sqL_of he, ?_, _, _, rfl, .inl (sqL_of hea), fun l nl => ?_⟩
    · unfold atI
      rw [ixN_ok bd.1 (by rw [List.length_map]; omega)]
      show (es.map V.ref)[(edOf chs.length x).toNat]? = _
      rw [List.getElem?_map, List.getElem?_eq_getElem hi]
      rfl
    · exact k l as1 _ nl (same_new nl) upd_same (hc1.keep (same_new nl))
  · have h := F.binds1 (ps := ["self", "edition"]) 2 1 (by intro z; cases z) rfl (fun TT kV doc pm an cdv ct us its h1 h2 => ?_)
    · obtain ⟨ds, v, b⟩ := h
      cases ds with
      | nil => exact b
      | cons _ _ => cases v
    · match us, h1, its, h2 with
      | [u0, u1], _, [i0], _ => exact ⟨_, rfl, rfl⟩
  · exact F.binds1 (ps := ["self", "edition"]) 1 0 (by intro z; cases z) rfl (fun TT kV doc pm an cdv ct us its h1 h2 => by
      match us, h1, its, h2 with
      | [u0], _, [i0], _ => exact ⟨_, rfl, rfl⟩)
/-! History.column, of a name that is there -/
def sp_Hist_column (K : PySem.W.Frag) : Sp := fun vs H Q _ => ∃ (h : Addr) (cs : List Col) (chs : List Ch) (x : V) (c : Col), vs = [.ref h, .str c.name, x] ∧ HistAt K H h cs chs ∧ chs.length ≤ 1000 ∧ (x = .non ∨ isEd chs.length x = true) ∧ c ∈ colsAt cs chs x ∧ ((colsAt cs chs x).map (·.name)).Nodup ∧
  ∀ a, ColA K H a c → Q (.ref a) H
theorem ok_Hist_column (T : Tx K mg) : ∃ fd, FnOk P w K mg base CX0 5 (He.ma K (He.ga K "History") "column") fd ["self", "name", "edition"] (sp_Hist_column K) ∧ (∃ g, KBn K fd ["self", "name", "edition"] 2 ["edition"] g (fun vs zs => vs ++ zs)) ∧ ∃ ds, Vals [V.non] ds ∧ Binds K fd ["self", "name", "edition"] ds := by
  have C1 := ok_edition_of (P := P) (w := w) (base := base) T
  have C2 := (ok_column_named (P := P) (w := w) (base := base) T).up (show 1 ≤ 4 by decide)
  obtain ⟨fd, F⟩ := fd_History_column T
  refine ⟨fd, F.ok (CX := CX0) sc_History_column (fun vs H Q E h => ?_) (fun cdv A outer s H vs Q E hr h => ?_), ?_, ?_⟩
  · obtain ⟨h, cs, chs, x, c, rfl, _⟩ := h
    rfl
  · suffices hh : ∃ t, PSs (cxOf CX0 P w K mg base ["self", "name", "edition", "found"] "History.column" (defScope s_History_column) (He.ma K (He.ga K "History") "column") cdv A outer s H E).nox (defBody s_History_column) t ∧
        t { nx := fun _ H' => Q .non H', rt := Q } (start ["self", "name", "edition", "found"] vs) H by
      obtain ⟨t, h1, h2⟩ := hh
      exact ⟨t, h1.nox, h2⟩
    obtain ⟨h, cs, chs, x, c0, rfl, hq, few, hx, hcm, hnd, k⟩ := h
    have nd := sc_History_column.nd
    obtain ⟨dx, e, c, b, d, es, ts, hh, he, hE, hc, hC, hb, hd⟩ := id hq
    have bd := isEd_ix hx
    have hlen : es.length = chs.length + 1 := by rw [hE.len, edsTo_len]
    have hi : (edOf chs.length x).toNat < es.length := by omega
    obtain ⟨cs1, as1, hcs1, hea, hc1⟩ := hE.at_ (List.getElem?_eq_getElem hi)
    rw [edsTo_get (by omega)] at hcs1
    obtain rfl := Option.some.inj hcs1
    refine ⟨_, (pss_cons (ps_set (i := 3) nd rfl (Or.inl rfl) (pcall C2 hr (pa_cons (pe_ix ix_list (pe_fld (pv 0) rfl) (pcall C1 hr (pa_cons (pv 0) (pa_cons (pv 2) pa_nil))) (fun _ _ => rfl)) (pa_cons (pv 1) pa_nil))))
        (pss_cons (ps_if (pt_cmpR op_isN (pv 3) pe_non (nomark _)) (pss_one ps_never) pss_nil)
        (pss_one (ps_ret (pv 3))))), ?_⟩
    have ha0 : atI (es.map V.ref) (edOf chs.length x) = some (.ref es[(edOf chs.length x).toNat]) := by
      unfold atI
      rw [ixN_ok bd.1 (by rw [List.length_map]; omega)]
      show (es.map V.ref)[(edOf chs.length x).toNat]? = _
      rw [List.getElem?_map, List.getElem?_eq_getElem hi]
      rfl
    have hfu := find_uniq (cs := colsAt cs chs x) hnd hcm rfl
    refine q_asgX ⟨_, rfl, h, _, dx, _, _, rfl, hh, cl_History T, na_History__editions T, histFs_editions, _, rfl, _, rfl, h, cs, chs, x, rfl, hq, few, hx, e, es.map V.ref, edOf chs.length x, .ref es[(edOf chs.length x).toNat], rfl, rfl, sqL_of he, ha0, _, rfl, _, as1, colsAt cs chs x, c0.name, rfl, .inl (sqL_of hea), hc1, fun v hv => ?_⟩
    rcases hv with ⟨_, hno⟩ | ⟨j, a, c', rfl, ha, hcj, hfi⟩
    · rw [hfu] at hno
      cases hno
    obtain rfl : c0 = c' := Option.some.inj (hfu.symm.trans hfi)
    obtain ⟨c', q1, q2⟩ := hc1.at_ ha
    obtain rfl : c0 = c' := Option.some.inj (hcj.symm.trans q1)
    refine ⟨_, rfl, rfl, _, rfl, iteD (fun z => by cases z) (nxt ⟨_, rfl, k a q2⟩)⟩
  · have h := F.kbinds0 (ps := ["self", "name", "edition"]) 2 ["edition"] [] (fun us mv ws => us ++ ws) (by intro z; cases z) (by intro q hq; cases hq) (fun r1 _ r4 => r1.append r4) (fun D doc pm an cdv ct us mv ws h1 h2 h3 => ?_)
    · obtain ⟨mv, h⟩ := h
      exact ⟨_, h⟩
    · match us, h1, mv, h2, ws, h3 with
      | [u0, u1], _, [], _, [w0], _ => exact rfl
  · exact F.binds0 (ps := ["self", "name", "edition"]) 2 (by intro z; cases z) rfl (fun D doc pm an cdv ct us ks h1 h2 => by
      match us, h1, ks, h2 with
      | [u0, u1], _, [i0], _ => exact ⟨_, _, _, _, _, _, rfl, rfl, rfl⟩)
/-! a History as the receiver of a method; whole numbers of values -/
theorem histFs_no {e c b d : Addr} {m : Str} (h1 : (m == "_editions") = false) (h2 : (m == "_changes") = false) (h3 : (m == "_births") = false) (h4 : (m == "_drops") = false) : (histFs e c b d).lookup m = none := by
  unfold histFs
  simp [List.lookup, h1, h2, h3, h4]
theorem histM {K : PySem.W.Frag} {H : Hp} {h : Addr} {cs : List Col} {chs : List Ch} (q : HistAt K H h cs chs) : ∃ dx fs, H h = some (.ins (He.ga K "History") dx fs) ∧ fs.lookup ("columns" : Str) = none := by
  obtain ⟨dx, e, c, b, d, es, ts, hh, _⟩ := q
  exact ⟨dx, _, hh, histFs_no (by decide +kernel) (by decide +kernel) (by decide +kernel) (by decide +kernel)⟩
theorem histMx (m : Str) (d : ((m == "_editions") || ((m == "_changes") || ((m == "_births") || (m == "_drops")))) = false) {K : PySem.W.Frag} {H : Hp} {h : Addr} {cs : List Col} {chs : List Ch} (q : HistAt K H h cs chs) : ∃ dx fs, H h = some (.ins (He.ga K "History") dx fs) ∧ fs.lookup m = none := by
  obtain ⟨dx, e, c, b, d', es, ts, hh, _⟩ := q
  rw [Bool.or_eq_false_iff, Bool.or_eq_false_iff, Bool.or_eq_false_iff] at d
  exact ⟨dx, _, hh, histFs_no d.1 d.2.1 d.2.2.1 d.2.2.2⟩
theorem isEd_nat' {n m : Nat} (h : m ≤ n) : isEd n (.int (m : Nat)) = true := by
  show (decide ((0 : Int) ≤ (m : Nat)) && decide (((m : Nat) : Int) ≤ (n : Nat))) = true
  rw [decide_eq_true (by omega), decide_eq_true (by omega)]
  rfl
theorem ix_int {xs : List V} {n : Int} {v : V} (h0 : 0 ≤ n) (h : xs[n.toNat]? = some v) : atI xs n = some v := by
  have hl := (List.getElem?_eq_some_iff.mp h).1
  unfold atI
  rw [ixN_ok h0 (by omega)]
  exact h

/-! history.numbers() -/
def sp_Hist_numbers (K : PySem.W.Frag) : Sp := fun vs H Q _ => ∃ (h : Addr) (cs : List Col) (chs : List Ch), vs = [.ref h] ∧ HistAt K H h cs chs ∧ HistOk cs chs ∧ Q (.int (atC cs chs).2) H
theorem ok_Hist_numbers (T : Tx K mg) : ∃ fd, FnOk P w K mg base CX0 1 (He.ma K (He.ga K "History") "numbers") fd ["self"] (sp_Hist_numbers K) ∧ Binds K fd ["self"] [] := by
  refine mkMeth (fd_History_numbers T) sc_History_numbers (fun _ _ _ _ _ _ us hl => match us, hl with | [_], _ => rfl) (fun vs H Q E h => ?_) (fun cdv A outer s H vs Q E hr h => ?_)
  · obtain ⟨h, cs, chs, rfl, _⟩ := h
    rfl
  obtain ⟨h, cs, chs, rfl, ⟨dx, e, c, b, d, es, ts, hh, he, hE, hc, hC, hb, hd⟩, o, k⟩ := h
  refine ⟨_, pss_one (ps_ret (pe_callB call_len_seq (by rfl) (fr_len T) PySem.boot_len (pa_cons (pe_fld (pv 0) rfl) pa_nil))), ?_⟩
  refine ⟨_, rfl, h, _, dx, _, _, rfl, hh, cl_History T, na_History__births T, histFs_births, b, _, rfl, .inl (sqL_of hb), ?_⟩
  rw [List.length_map, o.born]
  exact k
/-! is_given, of a whole number -/
def sp_is_given (K : PySem.W.Frag) : Sp := fun vs H Q _ => ∃ (h : Addr) (cs : List Col) (chs : List Ch) (n : Int), vs = [.ref h, .int n] ∧ HistAt K H h cs chs ∧ HistOk cs chs ∧ Q (.bl (decide (0 ≤ n) && decide (n < (atC cs chs).2))) H
theorem ok_is_given (T : Tx K mg) : Callee P w K mg base CX0 2 "is_given" ["history", "value"] [] (sp_is_given K) := by
  have C1 := ok_is_whole (P := P) (w := w) (base := base) T
  obtain ⟨fdN, FN, bN⟩ := ok_Hist_numbers (P := P) (w := w) (base := base) T
  refine mkCallee (fd_is_given T) (mg_is_given T) sc_is_given (fun _ _ _ _ _ _ us hl => match us, hl with | [_, _], _ => rfl) (fun vs H Q E h => ?_) (fun cdv A outer s H vs Q E hr h => ?_)
  · obtain ⟨h, cs, chs, n, rfl, _⟩ := h
    rfl
  · obtain ⟨h, cs, chs, n, rfl, hh, o, k⟩ := h
    obtain ⟨dx, fs, hi, no⟩ := histMx "numbers" (by decide +kernel) hh
    refine ⟨_, pss_one (ps_ret (pe_and (pcall C1 hr (pa_cons (pv 1) pa_nil)) (pe_one (pe_chain op_le op_lt pe_int (pv 1) (pe_meth0 (pv 0) (cl_History T) (me_History_numbers T) FN hr bN .nil pass0))))), ?_⟩
    refine ⟨_, rfl, .int n, "int", rfl, .base (.int n), _, rfl, iteT ⟨_, rfl, _, _, rfl, rfl, _, rfl, ?_⟩⟩
    cases h1 : decide (0 ≤ n) with
    | false =>
      rw [h1] at k
      exact k
    | true =>
      rw [h1] at k
      exact ⟨_, rfl, h, dx, fs, rfl, hi, no, h, cs, chs, rfl, hh, o, _, _, rfl, rfl, k⟩
/-! heaps: all but one place; lists and dicts apart -/
/-- all but what stands at p is as it was -/
def But (p : Addr) (H H' : Hp) : Prop := ∀ b o, b ≠ p → H b = some o → H' b = some o
theorem But.refl (p : Addr) (H : Hp) : But p H H := fun _ _ _ e => e
theorem But.trans {p : Addr} {H H1 H2 : Hp} (a : But p H H1) (b : But p H1 H2) : But p H H2 := fun c o h e => b c o h (a c o h e)
theorem But.of {p : Addr} {H H' : Hp} (s : Same H H') : But p H H' := fun b o _ e => s b o e
theorem But.mut {p : Addr} {H : Hp} {o : HO} : But p H (upd H p o) := fun b u h e => by
  rw [upd_ne h]
  exact e
/-- nothing that stood ahead of p is touched -/
theorem But.same {p : Addr} {H0 H H' : Hp} (b : But p H H') (s : Same H0 H) (n : H0 p = none) : Same H0 H' := fun c o e => b c o (ne_of_none e n) (s c o e)
theorem npool0 {H : Hp} {p l : Addr} {o : HO} (h : H p = some o) (n : H l = none) : l ≠ p := fun e => by
  rw [e, h] at n
  cases n
theorem KeepNL.ofBut {H H' : Hp} {p : Addr} {zs : List V} (h : H p = some (.lst zs)) (b : But p H H') : KeepNL H H' := fun c o n e => b c o (fun q => by rw [q, h] at e; exact n zs (Option.some.inj e).symm) e
/-- all that is neither a list nor a dict is as it was -/
def KeepT (H H' : Hp) : Prop := ∀ b o, (∀ zs, o ≠ HO.lst zs) → (∀ kvs, o ≠ HO.dK kvs) → H b = some o → H' b = some o
theorem KeepT.of {H H' : Hp} (s : Same H H') : KeepT H H' := fun b o _ _ e => s b o e
theorem KeepT.trans {H H1 H2 : Hp} (a : KeepT H H1) (b : KeepT H1 H2) : KeepT H H2 := fun c o n m e => b c o n m (a c o n m e)
theorem KeepT.lst {H : Hp} {D : Addr} {zs : List V} {o : HO} (h : H D = some (.lst zs)) : KeepT H (upd H D o) := fun b o' n _ e => by
  rw [upd_ne (fun q => by rw [q, h] at e; exact n zs (Option.some.inj e).symm)]
  exact e
theorem KeepT.dct {H : Hp} {D : Addr} {kvs : List (Key × V)} {o : HO} (h : H D = some (.dK kvs)) : KeepT H (upd H D o) := fun b o' _ n e => by
  rw [upd_ne (fun q => by rw [q, h] at e; exact n kvs (Option.some.inj e).symm)]
  exact e
theorem KeepT.but {H H' : Hp} {p : Addr} {zs : List V} (h : H p = some (.lst zs)) (b : But p H H') : KeepT H H' := fun c o n _ e => b c o (fun q => by rw [q, h] at e; exact n zs (Option.some.inj e).symm) e
theorem sqT_keepT {K : PySem.W.Frag} {H H' : Hp} {a : Addr} {xs : List V} (s : KeepT H H') (h : SqT K H a xs) : SqT K H' a xs := by
  rcases h with (h | ⟨o, h⟩) | h
  · exact .inl (.inl (s _ _ (fun _ z => by cases z) (fun _ z => by cases z) h))
  · exact .inl (.inr ⟨o, s _ _ (fun _ z => by cases z) (fun _ z => by cases z) h⟩)
  · exact .inr h
theorem sqT_keepNL {K : PySem.W.Frag} {H H' : Hp} {a : Addr} {xs : List V} (s : KeepNL H H') (h : SqT K H a xs) : SqT K H' a xs := by
  rcases h with (h | ⟨o, h⟩) | h
  · exact .inl (.inl (s _ _ (fun _ z => by cases z) h))
  · exact .inl (.inr ⟨o, s _ _ (fun _ z => by cases z) h⟩)
  · exact .inr h
theorem pl_e1 {σ : L2.St} {H : Hp} {X : TE} {r : List V → Hp → VK → Prop} {Q : VK} (h : X σ H fun v H1 => r [v] H1 Q) : tCB r (tCons X tNil) σ H Q := h
theorem pl_op {σ : L2.St} {H : Hp} {ta tb : TE} {r : V → V → Hp → VK → Prop} {Q : VK} (h : ta σ H fun x H1 => tb σ H1 fun y H2 => r x y H2 Q) : tOp r ta tb σ H Q := h
theorem at_zero {xs : List V} {v : V} (h : xs[0]? = some v) : atI xs 0 = some v := by
  have hj := (List.getElem?_eq_some_iff.mp h).1
  unfold atI
  rw [ixN_ok (by omega) (by omega)]
  exact h
theorem refs_no {as : List Addr} {a b : Int} : ¬ as.map V.ref = [.int a, .int b] := fun e => by
  cases as with
  | nil => cases e
  | cons x xs => cases (List.cons.inj e).1
theorem lref_at {as : List Addr} {j : Nat} {a : Addr} (h : as[j]? = some a) : atI (as.map V.ref) ((j : Nat) : Int) = some (.ref a) := by
  have hj := (List.getElem?_eq_some_iff.mp h).1
  unfold atI
  rw [ixN_ok (by omega) (by rw [List.length_map]; omega)]
  show (as.map V.ref)[j]? = _
  rw [List.getElem?_map, h]
  rfl

/-! Histories that stay, histories that go on -/
theorem numb_placed {cs : List Col} (p : Placed cs) : numb cs = cs := by
  unfold numb
  refine List.ext_getElem? fun i => ?_
  rw [List.getElem?_mapIdx]
  cases e : cs[i]? with
  | none => rfl
  | some c =>
    have := p i c e
    cases c
    simp only at this
    subst this
    rfl
theorem Cols.keepNL {K : PySem.W.Frag} {H H' : Hp} (s : KeepNL H H') : ∀ {as : List Addr} {cs : List Col}, Cols K H as cs → Cols K H' as cs
  | _, _, .nil => .nil
  | _, _, .cons h t => .cons (by
      obtain ⟨dx, q⟩ := h
      exact ⟨dx, s _ _ (fun _ z => by cases z) q⟩) (t.keepNL s)
theorem Chs.keepNL {K : PySem.W.Frag} {H H' : Hp} (s : KeepNL H H') : ∀ {as : List Addr} {cs : List Ch}, Chs K H as cs → Chs K H' as cs
  | _, _, .nil => .nil
  | _, _, .cons h t => .cons (by
      rcases h with (q | ⟨o, q⟩) | q
      · exact .inl (.inl (s _ _ (fun _ z => by cases z) q))
      · exact .inl (.inr ⟨o, s _ _ (fun _ z => by cases z) q⟩)
      · exact .inr q) (t.keepNL s)
theorem Eds.keepP {K : PySem.W.Frag} {H H' : Hp} {p : Addr} {y0 y1 : Int} (hp : H p = some (.lst [.int y0, .int y1])) (bt : But p H H') : ∀ {es : List Addr} {eds : List (List Col)}, Eds K H es eds → Eds K H' es eds
  | _, _, .nil => .nil
  | _, _, .cons as h c t => .cons as (bt _ _ (fun e => by rw [e, hp] at h; exact refs_no (HO.lst.inj (Option.some.inj h)).symm) h) (c.keepNL (KeepNL.ofBut hp bt)) (t.keepP hp bt)
/-- draws leave a History alone that was made behind the pool -/
theorem HistN.but {K : PySem.W.Frag} {H0 H H' : Hp} {h p : Addr} {cs : List Col} {chs : List Ch} {o : HO} {y0 y1 : Int} (q : HistN K H0 H h cs chs) (h0 : H0 p = some o) (hp : H p = some (.lst [.int y0, .int y1])) (bt : But p H H') : HistN K H0 H' h cs chs := by
  obtain ⟨dx, e, c, b, d, es, ts, ⟨q1, q2, q3, q4, q5, q6, q7⟩, qb, qd⟩ := q
  have kn := KeepNL.ofBut hp bt
  refine ⟨dx, e, c, b, d, es, ts, ⟨kn _ _ (fun _ z => by cases z) q1, bt _ _ (fun z => ?_) q2, q3.keepP hp bt, bt _ _ (fun z => ?_) q4, q5.keepNL kn, bt _ _ (fun z => ?_) q6, bt _ _ (fun z => ?_) q7⟩, qb, qd⟩
  · rw [z, hp] at q2
    exact refs_no (HO.lst.inj (Option.some.inj q2)).symm
  · rw [z, hp] at q4
    exact refs_no (HO.lst.inj (Option.some.inj q4)).symm
  · rw [z, h0] at qb
    cases qb
  · rw [z, h0] at qd
    cases qd
theorem Chs.keepT {K : PySem.W.Frag} {H H' : Hp} (s : KeepT H H') : ∀ {as : List Addr} {cs : List Ch}, Chs K H as cs → Chs K H' as cs
  | _, _, .nil => .nil
  | _, _, .cons h t => .cons (sqT_keepT s h) (t.keepT s)
theorem Chs.app {K : PySem.W.Frag} {H : Hp} : ∀ {as bs : List Addr} {cs ds : List Ch}, Chs K H as cs → Chs K H bs ds → Chs K H (as ++ bs) (cs ++ ds)
  | _, _, _, _, .nil, h => h
  | _, _, _, _, .cons h t, q => .cons h (t.app q)
theorem edsTo_app {cs : List Col} {chs : List Ch} {ch : Ch} : edsTo cs (chs ++ [ch]) ((chs ++ [ch]).length + 1) = edsTo cs chs (chs.length + 1) ++ [behind (atC cs chs).1 ch (atC cs chs).2] := by
  have e : (chs ++ [ch]).length = chs.length + 1 := by rw [List.length_append]; rfl
  rw [e, edsTo_succ]
  refine congr (congrArg _ ?_) ?_
  · unfold edsTo
    refine List.map_congr_left fun i hi => ?_
    rw [List.mem_range] at hi
    rw [List.take_append_of_le_length (by omega)]
  · rw [List.take_of_length_le (by omega)]
    show [(List.foldl stepC (cs, (cs.length : Int)) (chs ++ [ch])).1] = _
    rw [List.foldl_append]
    rfl
theorem atC_app {cs : List Col} {chs : List Ch} {ch : Ch} : (atC cs (chs ++ [ch])).2 = numThen ch (atC cs chs).2 := by
  show (List.foldl stepC (cs, (cs.length : Int)) (chs ++ [ch])).2 = _
  rw [List.foldl_append]
  rfl
theorem Fits.app {cs : List Col} {chs : List Ch} {ch : Ch} (f : Fits cs chs) (h1 : ch.fits = true) (h2 : hindV (atC cs chs).1 ch = .non) : Fits cs (chs ++ [ch]) := by
  intro i c hc
  by_cases hi : i < chs.length
  · rw [List.getElem?_append_left hi] at hc
    rw [List.take_append_of_le_length (by omega)]
    exact f i c hc
  · have e : i = chs.length := by
      have := (List.getElem?_eq_some_iff.mp hc).1
      rw [List.length_append] at this
      have q : [ch].length = 1 := rfl
      omega
    subst e
    rw [List.getElem?_append_right (Nat.le_refl _), Nat.sub_self] at hc
    obtain rfl := Option.some.inj hc
    rw [List.take_append_of_le_length (Nat.le_refl _), List.take_length]
    exact ⟨h1, h2⟩
def Asc (cs : List Col) : Prop := (cs.map (·.num)).Pairwise (· < ·)
theorem sorted_eq : ∀ {xs ys : List Int}, ys.Perm xs → ys.Pairwise (· ≤ ·) → xs.Pairwise (· < ·) → ys = xs
  | [], ys, p, _, _ => p.eq_nil
  | x :: xs, [], p, _, _ => by have := p.length_eq; simp at this
  | x :: xs, y :: ys, p, s, a => by
    rw [List.pairwise_cons] at s a
    have h1 : y ∈ x :: xs := p.mem_iff.mp List.mem_cons_self
    have h2 : x ∈ y :: ys := p.mem_iff.mpr List.mem_cons_self
    have l1 : y ≤ x := by
      rcases List.mem_cons.mp h2 with e | h
      · omega
      · exact s.1 x h
    have l2 : x ≤ y := by
      rcases List.mem_cons.mp h1 with e | h
      · omega
      · have := a.1 y h
        omega
    obtain rfl : y = x := by omega
    rw [sorted_eq p.cons_inv s.2 a.2]
theorem asc_first {cs : List Col} (p : Placed cs) : Asc cs := by
  unfold Asc
  rw [List.pairwise_map, List.pairwise_iff_getElem]
  intro i j hi hj hij
  have h1 := p i cs[i] (List.getElem?_eq_getElem hi)
  have h2 := p j cs[j] (List.getElem?_eq_getElem hj)
  omega
theorem asc_map {cs : List Col} {f : Col → Col} (a : Asc cs) (h : ∀ c ∈ cs, (f c).num = c.num) : Asc (cs.map f) := by
  have e : (cs.map f).map (·.num) = cs.map (·.num) := by
    rw [List.map_map]
    exact List.map_congr_left h
  unfold Asc
  rw [e]
  exact a
theorem asc_step {cs : List Col} {n : Int} {ch : Ch} (g : Good cs n) (a : Asc cs) : Asc (behind cs ch n) := by
  have hc : ∀ c : Col, (chgC c ch).num = c.num := fun c => by cases ch <;> rfl
  have hm : ∀ c ∈ cs, (if c.name = ch.name then chgC c ch else c).num = c.num := fun c _ => by
    split
    · exact hc c
    · rfl
  cases ch with
  | add nm gr d =>
    have a' : (cs.map (·.num)).Pairwise (· < ·) := a
    show ((cs ++ [(⟨nm, gr, d, n⟩ : Col)]).map (·.num)).Pairwise (· < ·)
    rw [List.map_append, List.pairwise_append]
    refine ⟨a', by simp, fun x hx y hy => ?_⟩
    obtain ⟨c, hc1, rfl⟩ := List.mem_map.mp hx
    rw [List.map_cons, List.map_nil, List.mem_singleton] at hy
    rw [hy]
    exact (g.ok c hc1).2
  | drop nm =>
    have a' : (cs.map (·.num)).Pairwise (· < ·) := a
    exact a'.sublist (List.filter_sublist.map _)
  | rename _ _ => exact asc_map a hm
  | dflt _ _ => exact asc_map a hm
  | great _ _ _ => exact asc_map a hm
  | fill _ _ => exact asc_map a hm
theorem asc_at {cs : List Col} {chs : List Ch} (o : HistOk cs chs) : ∀ i, i ≤ chs.length → Asc (atC cs (chs.take i)).1
  | 0, _ => asc_first o.pl
  | i + 1, h => by
    have e : chs[i]? = some chs[i] := List.getElem?_eq_getElem (by omega)
    rw [atC_snoc e]
    exact asc_step (o.f.good o.g i (by omega)) (asc_at o i (by omega))
theorem atC_le {cs : List Col} {chs : List Ch} : ∀ i, i ≤ chs.length → (atC cs (chs.take i)).2 ≤ (cs.length : Int) + i
  | 0, _ => by show (cs.length : Int) ≤ _; omega
  | i + 1, h => by
    have e : chs[i]? = some chs[i] := List.getElem?_eq_getElem (by omega)
    have ih := atC_le (cs := cs) (chs := chs) i (by omega)
    rw [atC_snoc e]
    show numThen chs[i] (atC cs (chs.take i)).2 ≤ _
    by_cases k : chs[i].kind = "add"
    · rw [kind_add k]
      omega
    · rw [kind_noadd k]
      omega

/-! numbers that ascend are unlike -/
theorem asc_lt {cm : List Col} (a : Asc cm) {i j : Nat} {c d : Col} (hi : cm[i]? = some c) (hj : cm[j]? = some d) (h : i < j) : c.num < d.num := by
  unfold Asc at a
  rw [List.pairwise_iff_getElem] at a
  obtain ⟨li, e1⟩ := List.getElem?_eq_some_iff.mp hi
  obtain ⟨lj, e2⟩ := List.getElem?_eq_some_iff.mp hj
  have := a i j (by rw [List.length_map]; exact li) (by rw [List.length_map]; exact lj) h
  rw [List.getElem_map, List.getElem_map, e1, e2] at this
  exact this
theorem asc_uniq {cm : List Col} (a : Asc cm) {i j : Nat} {c d : Col} (hi : cm[i]? = some c) (hj : cm[j]? = some d) (h : c.num = d.num) : i = j := by
  rcases Nat.lt_trichotomy i j with q | q | q
  · have := asc_lt a hi hj q
    omega
  · exact q
  · have := asc_lt a hj hi q
    omega

/-! rows of the columns -/
theorem any_no {κ : Type} [DecidableEq κ] {acc : List (κ × V)} {k : κ} (h : k ∉ acc.map (·.1)) : (acc.any fun kv => decide (kv.1 = k)) = false := by
  rw [Bool.eq_false_iff]
  intro q
  rw [List.any_eq_true] at q
  obtain ⟨kv, hm, e⟩ := q
  exact h (List.mem_map.mpr ⟨kv, hm, of_decide_eq_true e⟩)
theorem merge_new : ∀ (kvs acc : List (Key × V)), ((acc ++ kvs).map (·.1)).Nodup → mergeK acc kvs = acc ++ kvs
  | [], acc, _ => by rw [List.append_nil]; rfl
  | kv :: kvs, acc, nd => by
    have h1 : kv.1 ∉ acc.map (·.1) := fun hm => by
      rw [List.map_append, List.nodup_append] at nd
      exact nd.2.2 _ hm _ (List.mem_map.mpr ⟨kv, List.mem_cons_self, rfl⟩) rfl
    have e : putK acc kv.1 kv.2 = acc ++ [kv] := by
      unfold putK
      rw [any_no h1, if_neg (by decide)]
    show mergeK (putK acc kv.1 kv.2) kvs = _
    rw [e, merge_new kvs (acc ++ [kv]) (by rw [List.append_assoc]; exact nd), List.append_assoc]
    rfl
theorem paired_of {R : Addr → Key × V → Prop} : ∀ {ts : List Addr} {kvs : List (Key × V)}, ts.length = kvs.length → (∀ (j : Nat) t kv, ts[j]? = some t → kvs[j]? = some kv → R t kv) → Paired R ts kvs
  | [], [], _, _ => .nil
  | [], _ :: _, h, _ => by cases h
  | _ :: _, [], h, _ => by cases h
  | t :: ts, kv :: kvs, h, f => .cons (f 0 t kv rfl rfl) (paired_of (Nat.succ.inj h) fun j t' kv' h1 h2 => f (j + 1) t' kv' (by simpa using h1) (by simpa using h2))
/-- a law's row of the columns cs -/
def RowD (cs : List Col) (kvs : List (Key × V)) : Prop := kvs.length = cs.length ∧ ∀ (j : Nat) (c : Col), cs[j]? = some c → ∃ v, kvs[j]? = some (Sum.inr c.name, v) ∧ isIn c.top v = true
theorem RowD.keys {cs : List Col} {kvs : List (Key × V)} (r : RowD cs kvs) : kvs.map (·.1) = (cs.map (·.name)).map Sum.inr := by
  refine List.ext_getElem? fun j => ?_
  rw [List.getElem?_map, List.getElem?_map, List.getElem?_map]
  cases e : cs[j]? with
  | none =>
    have : kvs[j]? = none := List.getElem?_eq_none (by have := List.getElem?_eq_none_iff.mp e; rw [r.1]; exact this)
    rw [this]
    rfl
  | some c =>
    obtain ⟨v, h1, _⟩ := r.2 j c e
    rw [h1]
    rfl
theorem nodup_inr {ns : List Str} (h : ns.Nodup) : (ns.map (Sum.inr : Str → Key)).Nodup := by
  unfold List.Nodup at *
  rw [List.pairwise_map]
  exact h.imp fun e q => e (Sum.inr.inj q)
theorem valV_at {k : Key} {v : V} : ∀ {kvs : List (Key × V)} {j : Nat}, (kvs.map (·.1)).Nodup → kvs[j]? = some (k, v) → valV kvs k = some v
  | [], _, _, h => by simp at h
  | kv :: kvs, 0, _, h => by
    obtain rfl : kv = (k, v) := by simpa using h
    exact valV_pos rfl
  | kv :: kvs, j + 1, nd, h => by
    rw [List.map_cons, List.nodup_cons] at nd
    have h' : kvs[j]? = some (k, v) := by simpa using h
    rw [valV_neg (fun e => nd.1 (List.mem_map.mpr ⟨(k, v), List.mem_of_getElem? h', e.symm⟩))]
    exact valV_at nd.2 h'

/-! the row behind a change, as data -/
/-! changed_row, of a row of the columns and a change that can be done to them -/
/-- what a column gives to the row behind -/
def stepR (ch : Ch) (c : Col) (v : V) (acc : List (Key × V)) : List (Key × V) := match ch with
  | .drop n => if c.name = n then acc else putK acc (Sum.inr c.name) v
  | .rename n m => if c.name = n then putK acc (Sum.inr m) v else putK acc (Sum.inr c.name) v
  | _ => putK acc (Sum.inr c.name) v
/-- the row behind, column by column; none where a value is barred -/
def rowGo (ch : Ch) : List Col → List V → List (Key × V) → Option (List (Key × V))
  | c :: cs, v :: vs, acc => if isMis (chgV c.name ch v) = true then none else rowGo ch cs vs (stepR ch c (chgV c.name ch v) acc)
  | _, _, acc => some acc
def endR (ch : Ch) (acc : List (Key × V)) : List (Key × V) := match ch with
  | .add n _ d => putK acc (Sum.inr n) d
  | _ => acc
def rowThen (cs : List Col) (ch : Ch) (kvs : List (Key × V)) : Option (List (Key × V)) := (rowGo ch cs (kvs.map (·.2)) []).map (endR ch)
/-! the row behind is a row of the columns behind -/
inductive RowP : List Col → List (Key × V) → Prop
  | nil : RowP [] []
  | cons {c : Col} {cs : List Col} {v : V} {kvs : List (Key × V)} : isIn c.top v = true → RowP cs kvs → RowP (c :: cs) ((Sum.inr c.name, v) :: kvs)
theorem RowP.of : ∀ {cs : List Col} {kvs : List (Key × V)}, RowD cs kvs → RowP cs kvs
  | [], [], _ => .nil
  | [], _ :: _, r => by cases r.1
  | _ :: _, [], r => by cases r.1
  | c :: cs, kv :: kvs, r => by
    obtain ⟨v, h1, h2⟩ := r.2 0 c rfl
    obtain rfl : kv = (Sum.inr c.name, v) := Option.some.inj h1
    exact .cons h2 (RowP.of ⟨Nat.succ.inj r.1, fun j c' hc => by
      obtain ⟨v', h3, h4⟩ := r.2 (j + 1) c' (by simpa using hc)
      exact ⟨v', by simpa using h3, h4⟩⟩)
theorem RowP.row : ∀ {cs : List Col} {kvs : List (Key × V)}, RowP cs kvs → RowD cs kvs
  | _, _, .nil => ⟨rfl, fun j c h => by simp at h⟩
  | _, _, .cons (v := v) h t => by
    have ih := t.row
    refine ⟨congrArg Nat.succ ih.1, fun j c' hc => ?_⟩
    cases j with
    | zero =>
      obtain rfl := Option.some.inj hc
      exact ⟨v, rfl, h⟩
    | succ j =>
      obtain ⟨v', h1, h2⟩ := ih.2 j c' (by simpa using hc)
      exact ⟨v', by simpa using h1, h2⟩
theorem RowP.app : ∀ {cs ds : List Col} {kvs lvs : List (Key × V)}, RowP cs kvs → RowP ds lvs → RowP (cs ++ ds) (kvs ++ lvs)
  | _, _, _, _, .nil, h => h
  | _, _, _, _, .cons h t, q => .cons h (t.app q)
/-- what becomes of one column -/
def colR (ch : Ch) (c : Col) : List Col := match ch with
  | .add _ _ _ => [c]
  | .drop n => if c.name = n then [] else [c]
  | ch => [if c.name = ch.name then chgC c ch else c]
def newR (ch : Ch) (num : Int) : List Col := match ch with
  | .add n g d => [⟨n, g, d, num⟩]
  | _ => []
theorem flat_one {f : Col → Col} : ∀ cs : List Col, cs.flatMap (fun c => [f c]) = cs.map f
  | [] => rfl
  | c :: cs => by rw [List.flatMap_cons, flat_one cs]; rfl
theorem flat_drop {n : Str} : ∀ cs : List Col, cs.flatMap (fun c => if c.name = n then [] else [c]) = cs.filter (fun c => !decide (c.name = n))
  | [] => rfl
  | c :: cs => by
    rw [List.flatMap_cons, flat_drop cs, List.filter_cons]
    by_cases h : c.name = n
    · rw [if_pos h, if_neg (by rw [decide_eq_true h]; decide)]
      rfl
    · rw [if_neg h, if_pos (by rw [decide_eq_false h]; rfl)]
      rfl
theorem behind_flat (cs : List Col) (ch : Ch) (num : Int) : behind cs ch num = cs.flatMap (colR ch) ++ newR ch num := by
  cases ch with
  | add n g d =>
    show cs ++ _ = cs.flatMap (fun c => [c]) ++ _
    rw [flat_one (f := fun c => c), List.map_id']
    rfl
  | drop n =>
    show cs.filter _ = cs.flatMap (fun c => if c.name = n then [] else [c]) ++ []
    rw [flat_drop, List.append_nil]
  | rename n m => exact (by show cs.map _ = cs.flatMap (fun c => [_]) ++ []; rw [flat_one, List.append_nil])
  | dflt n v => exact (by show cs.map _ = cs.flatMap (fun c => [_]) ++ []; rw [flat_one, List.append_nil])
  | great n g way => exact (by show cs.map _ = cs.flatMap (fun c => [_]) ++ []; rw [flat_one, List.append_nil])
  | fill n i => exact (by show cs.map _ = cs.flatMap (fun c => [_]) ++ []; rw [flat_one, List.append_nil])
def giveR (ch : Ch) (c : Col) (w : V) : List (Key × V) := (colR ch c).map fun c' => (Sum.inr c'.name, w)
theorem step_give (ch : Ch) (c : Col) (w : V) (acc : List (Key × V)) : stepR ch c w acc = mergeK acc (giveR ch c w) := by
  cases ch with
  | add n g d => rfl
  | drop n =>
    show (if c.name = n then acc else putK acc (Sum.inr c.name) w) = mergeK acc ((if c.name = n then [] else [c]).map _)
    by_cases h : c.name = n
    · rw [if_pos h, if_pos h]
      rfl
    · rw [if_neg h, if_neg h]
      rfl
  | rename n m =>
    show (if c.name = n then putK acc (Sum.inr m) w else putK acc (Sum.inr c.name) w) = mergeK acc ([if c.name = n then ({ c with name := m } : Col) else c].map _)
    by_cases h : c.name = n
    · rw [if_pos h, if_pos h]
      rfl
    · rw [if_neg h, if_neg h]
      rfl
  | dflt n v =>
    show putK acc (Sum.inr c.name) w = mergeK acc ([if c.name = n then chgC c (.dflt n v) else c].map _)
    by_cases h : c.name = n
    · rw [if_pos h]
      rfl
    · rw [if_neg h]
      rfl
  | great n g way =>
    show putK acc (Sum.inr c.name) w = mergeK acc ([if c.name = n then chgC c (.great n g way) else c].map _)
    by_cases h : c.name = n
    · rw [if_pos h]
      rfl
    · rw [if_neg h]
      rfl
  | fill n i =>
    show putK acc (Sum.inr c.name) w = mergeK acc ([if c.name = n then chgC c (.fill n i) else c].map _)
    by_cases h : c.name = n
    · rw [if_pos h]
      rfl
    · rw [if_neg h]
      rfl
theorem give_row {ch : Ch} {c : Col} {w : V} : ∀ {ds : List Col}, (∀ c' ∈ ds, isIn c'.top w = true) → RowP ds (ds.map fun c' => (Sum.inr c'.name, w))
  | [], _ => .nil
  | d :: ds, h => .cons (h d List.mem_cons_self) (give_row (ch := ch) (c := c) fun c' hc => h c' (List.mem_cons_of_mem _ hc))
theorem go_row {ch : Ch} : ∀ {cs : List Col} {kvs : List (Key × V)}, RowP cs kvs → (∀ c ∈ cs, ∀ v, isIn c.top v = true → isMis (chgV c.name ch v) = false → ∀ c' ∈ colR ch c, isIn c'.top (chgV c.name ch v) = true) →
    ∀ acc acc', rowGo ch cs (kvs.map (·.2)) acc = some acc' → ∃ more, RowP (cs.flatMap (colR ch)) more ∧ acc' = mergeK acc more
  | _, _, .nil, _, acc, acc', h => ⟨[], .nil, (Option.some.inj h).symm⟩
  | _, _, .cons (c := c) (cs := cs) (v := v) (kvs := kvs) hv t, k, acc, acc', h => by
    have h : (if isMis (chgV c.name ch v) = true then none else rowGo ch cs (kvs.map (·.2)) (stepR ch c (chgV c.name ch v) acc)) = some acc' := h
    cases hm : isMis (chgV c.name ch v) with
    | true =>
      rw [hm, if_pos rfl] at h
      cases h
    | false =>
      rw [hm, if_neg (by decide)] at h
      obtain ⟨more, h1, h2⟩ := go_row t (fun c' hc => k c' (List.mem_cons_of_mem _ hc)) _ _ h
      refine ⟨giveR ch c (chgV c.name ch v) ++ more, ?_, ?_⟩
      · rw [List.flatMap_cons]
        exact (give_row (ch := ch) (c := c) (k c List.mem_cons_self v hv hm)).app h1
      · rw [h2, step_give]
        show List.foldl _ (List.foldl _ acc _) more = List.foldl _ acc _
        rw [List.foldl_append]
theorem chg_in {cs : List Col} {ch : Ch} {c : Col} {v : V} (nms : (cs.map (·.name)).Nodup) (f : ch.fits = true) (hz : hindV cs ch = .non) (hc : c ∈ cs) (h : isIn c.top v = true) (m : isMis (chgV c.name ch v) = false) : ∀ c' ∈ colR ch c, isIn c'.top (chgV c.name ch v) = true := by
  have whole : ∀ {j g : Int}, isIn g (.int j) = true ↔ 0 ≤ j ∧ j ≤ g := fun {j g} => by
    show (decide (0 ≤ j) && decide (j ≤ g)) = true ↔ _
    rw [Bool.and_eq_true, decide_eq_true_iff, decide_eq_true_iff]
  intro c' hc'
  by_cases hn : c.name = ch.name
  · have hfind : cs.find? (isN ch.name) = some c := find_uniq nms hc hn
    unfold chgV at m ⊢
    rw [if_pos hn.symm] at m ⊢
    cases ch with
    | add n g d =>
      rw [List.mem_singleton.mp hc']
      exact h
    | drop n =>
      have : c' ∈ (if c.name = n then [] else [c]) := hc'
      rw [if_pos (show c.name = n from hn)] at this
      cases this
    | rename n k =>
      have e : c' = (if c.name = (Ch.rename n k).name then chgC c (.rename n k) else c) := List.mem_singleton.mp hc'
      rw [if_pos hn] at e
      rw [e]
      exact h
    | dflt n x =>
      have e : c' = (if c.name = (Ch.dflt n x).name then chgC c (.dflt n x) else c) := List.mem_singleton.mp hc'
      rw [if_pos hn] at e
      rw [e]
      exact h
    | great n g way =>
      have e : c' = (if c.name = (Ch.great n g way).name then chgC c (.great n g way) else c) := List.mem_singleton.mp hc'
      rw [if_pos hn] at e
      rw [e]
      have f : (isNm (.str n) && (isGr (.int g) && isWy way)) = true := f
      rw [Bool.and_eq_true, Bool.and_eq_true] at f
      have hg : 1 ≤ g := of_decide_eq_true (Bool.and_eq_true_iff.mp f.2.1).1
      show isIn g _ = true
      cases v with
      | non => rfl
      | int j =>
        have hj := whole.mp h
        have m : isMis (if g < j then abv g way else .int j) = false := m
        show isIn g (if g < j then abv g way else .int j) = true
        by_cases q : g < j
        · rw [if_pos q] at m ⊢
          unfold abv at m ⊢
          split
          · exact whole.mpr ⟨by omega, Int.le_refl _⟩
          · rename_i q1
            rw [if_neg q1] at m
            split
            · rfl
            · rename_i q2
              rw [if_neg q2] at m
              exact absurd m (by decide +kernel)
        · rw [if_neg q]
          exact whole.mpr ⟨hj.1, by omega⟩
      | _ => cases h
    | fill n i =>
      have e : c' = (if c.name = (Ch.fill n i).name then chgC c (.fill n i) else c) := List.mem_singleton.mp hc'
      rw [if_pos hn] at e
      rw [e]
      have hf : cs.find? (isN n) = some c := hfind
      have hz : hindV cs (.fill n i) = .non := hz
      simp only [hindV, hf] at hz
      show isIn c.top _ = true
      cases v with
      | non =>
        show isIn c.top (.int i) = true
        by_cases q : isIn c.top (.int i) = true
        · exact q
        · rw [if_neg q] at hz
          cases hz
      | int j => exact h
      | _ => cases h
  · unfold chgV
    rw [if_neg (fun e => hn e.symm)]
    have e : c' = c := by
      cases ch with
      | add n g d => exact List.mem_singleton.mp hc'
      | drop n =>
        have : c' ∈ (if c.name = n then [] else [c]) := hc'
        rw [if_neg (show ¬ c.name = n from hn)] at this
        exact List.mem_singleton.mp this
      | rename n k =>
        have e : c' = (if c.name = (Ch.rename n k).name then chgC c (.rename n k) else c) := List.mem_singleton.mp hc'
        rw [if_neg hn] at e
        exact e
      | dflt n x =>
        have e : c' = (if c.name = (Ch.dflt n x).name then chgC c (.dflt n x) else c) := List.mem_singleton.mp hc'
        rw [if_neg hn] at e
        exact e
      | great n g way =>
        have e : c' = (if c.name = (Ch.great n g way).name then chgC c (.great n g way) else c) := List.mem_singleton.mp hc'
        rw [if_neg hn] at e
        exact e
      | fill n i =>
        have e : c' = (if c.name = (Ch.fill n i).name then chgC c (.fill n i) else c) := List.mem_singleton.mp hc'
        rw [if_neg hn] at e
        exact e
    rw [e]
    exact h
def lastR (ch : Ch) : List (Key × V) := match ch with
  | .add n _ d => [(Sum.inr n, d)]
  | _ => []
/-- a row that a change does not bar is a row of the columns behind -/
theorem rowThen_row {cs : List Col} {ch : Ch} {num : Int} {kvs kvs' : List (Key × V)} (g : Good cs num) (f : ch.fits = true) (hz : hindV cs ch = .non) (r : RowD cs kvs) (h : rowThen cs ch kvs = some kvs') : RowD (behind cs ch num) kvs' := by
  unfold rowThen at h
  cases e : rowGo ch cs (kvs.map (·.2)) [] with
  | none =>
    rw [e] at h
    cases h
  | some acc =>
    rw [e] at h
    obtain rfl := Option.some.inj h
    obtain ⟨more, h1, rfl⟩ := go_row (RowP.of r) (fun c hc v hv hm => chg_in g.names f hz hc hv hm) [] acc e
    have h2 : RowP (behind cs ch num) (more ++ lastR ch) := by
      rw [behind_flat]
      refine h1.app ?_
      cases ch with
      | add n gr d =>
        refine .cons ?_ .nil
        have hz : addHind cs n gr d = .non := hz
        unfold addHind at hz
        split at hz
        · cases hz
        · split at hz
          · cases hz
          · split at hz
            · assumption
            · cases hz
      | _ => exact .nil
    have e2 : endR ch (mergeK [] more) = mergeK [] (more ++ lastR ch) := by
      cases ch with
      | add n gr d =>
        show putK (mergeK [] more) (Sum.inr n) d = List.foldl _ [] (more ++ [(Sum.inr n, d)])
        rw [List.foldl_append]
        rfl
      | _ => exact (by show mergeK [] more = mergeK [] (more ++ []); rw [List.append_nil])
    show RowD _ (endR ch (mergeK [] more))
    rw [e2]
    have e3 := merge_new (more ++ lastR ch) [] (by rw [List.nil_append, h2.row.keys]; exact nodup_inr (g.step f hz).names)
    rw [List.nil_append] at e3
    rw [e3]
    exact h2.row
theorem ty_chg {K : PySem.W.Frag} {n : Str} {ch : Ch} {v : V} (h : valOk v = true) : ∃ t, ∀ H : Hp, TyX K H (chgV n ch v) (.type t) := by
  have hs := chg_scal (n := n) (c := ch) h
  cases e : chgV n ch v with
  | non => exact ⟨_, fun _ => .base .non⟩
  | int i => exact ⟨_, fun _ => .base (.int i)⟩
  | str z => exact ⟨_, fun _ => .base (.str z)⟩
  | bl b => exact ⟨_, fun _ => .base (.bl b)⟩
  | flt x => exact ⟨_, fun _ => .base (.flt x)⟩
  | byt b => exact ⟨_, fun _ => .byt b⟩
  | ref a => rw [e] at hs; cases hs
  | ty t => rw [e] at hs; cases hs
theorem step_len (ch : Ch) (c : Col) (v : V) (acc : List (Key × V)) : (stepR ch c v acc).length ≤ acc.length + 1 := by
  have h : ∀ k : Key, (putK acc k v).length ≤ acc.length + 1 := fun k => by
    unfold putK
    split
    · rw [List.length_map]
      omega
    · rw [List.length_append]
      exact Nat.le_refl _
  unfold stepR
  repeat (first | exact h _ | exact Nat.le_succ _ | split)
theorem go_at {ch : Ch} {cs : List Col} {vs : List V} {i : Nat} {c : Col} {v : V} {acc : List (Key × V)} (hc : cs[i]? = some c) (hv : vs[i]? = some v) : rowGo ch (cs.drop i) (vs.drop i) acc = if isMis (chgV c.name ch v) = true then none else rowGo ch (cs.drop (i + 1)) (vs.drop (i + 1)) (stepR ch c (chgV c.name ch v) acc) := by
  obtain ⟨hi, e1⟩ := List.getElem?_eq_some_iff.mp hc
  obtain ⟨hj, e2⟩ := List.getElem?_eq_some_iff.mp hv
  rw [List.drop_eq_getElem_cons hi, List.drop_eq_getElem_cons hj, e1, e2]
  rfl

/-- values of the columns, by their numbers -/
def FitE (cs : List Col) (es : List (Int × V)) : Prop := es.length = cs.length ∧ ∀ (j : Nat) (c : Col), cs[j]? = some c → ∃ v, es[j]? = some (c.num, v) ∧ isIn c.top v = true

/-! a row followed, as data -/
/-! trail: a stored row, edition by edition -/
/-- what a plain table has that was written so -/
def rowE (cs : List Col) (es : List (Int × V)) : List (Key × V) := cs.mapIdx fun j c => (Sum.inr c.name, match es[j]? with
  | some e => e.2
  | none => V.non)
theorem rowE_len {cs : List Col} {es : List (Int × V)} : (rowE cs es).length = cs.length := List.length_mapIdx
theorem rowE_at {cs : List Col} {es : List (Int × V)} (f : FitE cs es) {j : Nat} {c : Col} (h : cs[j]? = some c) : ∃ v, (rowE cs es)[j]? = some (Sum.inr c.name, v) ∧ es[j]? = some (c.num, v) ∧ isIn c.top v = true := by
  obtain ⟨v, h1, h2⟩ := f.2 j c h
  refine ⟨v, ?_, h1, h2⟩
  unfold rowE
  rw [List.getElem?_mapIdx, h]
  show some (Sum.inr c.name, match es[j]? with | some e => e.2 | none => V.non) = _
  rw [h1]
theorem rowE_row {cs : List Col} {es : List (Int × V)} (f : FitE cs es) : RowD cs (rowE cs es) := ⟨rowE_len, fun j c h => by
  obtain ⟨v, h1, _, h2⟩ := rowE_at f h
  exact ⟨v, h1, h2⟩⟩
/-- the row behind j changes more, if nothing bars it -/
def folTo (cs : List Col) (chs : List Ch) (i : Nat) (kvs : List (Key × V)) : Nat → Option (List (Key × V))
  | 0 => some kvs
  | j + 1 => match folTo cs chs i kvs j, chs[i + j]? with
    | some r, some ch => rowThen (atC cs (chs.take (i + j))).1 ch r
    | _, _ => none
theorem folTo_succ {cs : List Col} {chs : List Ch} {i j : Nat} {kvs r : List (Key × V)} {ch : Ch} (h1 : folTo cs chs i kvs j = some r) (h2 : chs[i + j]? = some ch) : folTo cs chs i kvs (j + 1) = rowThen (atC cs (chs.take (i + j))).1 ch r := by
  show (match folTo cs chs i kvs j, chs[i + j]? with
    | some r, some ch => rowThen (atC cs (chs.take (i + j))).1 ch r
    | _, _ => none) = _
  rw [h1, h2]
theorem folTo_row {cs : List Col} {chs : List Ch} {i : Nat} {kvs : List (Key × V)} (o : HistOk cs chs) (r0 : RowD (atC cs (chs.take i)).1 kvs) : ∀ j, i + j ≤ chs.length → ∀ r, folTo cs chs i kvs j = some r → RowD (atC cs (chs.take (i + j))).1 r
  | 0, _, r, e => by
    obtain rfl := Option.some.inj e
    exact r0
  | j + 1, h, r, e => by
    cases h1 : folTo cs chs i kvs j with
    | none =>
      have : folTo cs chs i kvs (j + 1) = none := by
        show (match folTo cs chs i kvs j, chs[i + j]? with
          | some r, some ch => rowThen (atC cs (chs.take (i + j))).1 ch r
          | _, _ => none) = _
        rw [h1]
      rw [this] at e
      cases e
    | some r1 =>
      have h2 : chs[i + j]? = some chs[i + j] := List.getElem?_eq_getElem (by omega)
      rw [folTo_succ h1 h2] at e
      obtain ⟨ft, hz⟩ := o.f (i + j) _ h2
      have := rowThen_row (o.f.good o.g (i + j) (by omega)) ft hz (folTo_row o r0 j (by omega) r1 h1) e
      rw [show i + (j + 1) = i + j + 1 from rfl, atC_snoc h2]
      exact this
/-- the rows stand at the addresses, one behind the other -/
def Fol (cs : List Col) (chs : List Ch) (i : Nat) (kvs : List (Key × V)) (H : Hp) (ds : List Addr) : Prop := ∀ (t : Nat) (d : Addr), ds[t]? = some d → ∃ r, folTo cs chs i kvs t = some r ∧ H d = some (.dK r)
theorem Fol.keep {cs : List Col} {chs : List Ch} {i : Nat} {kvs : List (Key × V)} {H H' : Hp} {ds : List Addr} (s : Same H H') (f : Fol cs chs i kvs H ds) : Fol cs chs i kvs H' ds := fun t d h => by
  obtain ⟨r, h1, h2⟩ := f t d h
  exact ⟨r, h1, s _ _ h2⟩

/-! rows that are put together of two, number by number -/
/-- the last part of a change -/
def lastV : Ch → V
  | .add _ _ d => d
  | .drop n => .str n
  | .rename _ m => .str m
  | .dflt _ v => v
  | .great _ _ way => .str way
  | .fill _ i => .int i
theorem last_at (ch : Ch) : atI ch.toV (-1) = some (lastV ch) := by cases ch <;> rfl
theorem last_scal {ch : Ch} (f : ch.fits = true) : scal (lastV ch) (.str "refuse") = true := by
  cases ch with
  | add n g d =>
    have h : isVal d = true := (Bool.and_eq_true_iff.mp (Bool.and_eq_true_iff.mp f).2).2
    cases d with
    | non => rfl
    | int _ => rfl
    | _ => cases h
  | dflt n d =>
    have h : isVal d = true := (Bool.and_eq_true_iff.mp f).2
    cases d with
    | non => rfl
    | int _ => rfl
    | _ => cases h
  | _ => rfl
def noRef (ch : Ch) : Bool := !decide (lastV ch = .str "refuse")
theorem noRef_free {ch : Ch} {n : Str} {g : Int} {v : V} (f : ch.fits = true) (nr : noRef ch = true) (h : isIn g v = true) : isMis (chgV n ch v) = false := by
  have hv : isMis v = false := by
    cases v with
    | str _ => cases h
    | _ => rfl
  unfold chgV
  split
  · cases ch with
    | great m g' way =>
      cases v with
      | int j =>
        show isMis (if g' < j then abv g' way else .int j) = false
        split
        · have nr : (!decide (V.str way = .str "refuse")) = true := nr
          have hw : isWy way = true := (Bool.and_eq_true_iff.mp (Bool.and_eq_true_iff.mp f).2).2
          unfold abv
          split
          · rfl
          · split
            · rfl
            · rename_i h1 h2
              exfalso
              unfold isWy at hw
              rw [decide_eq_false h1, decide_eq_false h2, Bool.false_or, Bool.false_or] at hw
              rw [of_decide_eq_true hw, decide_eq_true rfl] at nr
              cases nr
        · rfl
      | non => rfl
      | _ => cases h
    | fill m i =>
      cases v with
      | non => rfl
      | int _ => rfl
      | _ => cases h
    | _ => exact hv
  · exact hv
/-- what the columns give to the row behind -/
def giveL (ch : Ch) : List Col → List V → List (Key × V)
  | c :: cs, v :: vs => giveR ch c (chgV c.name ch v) ++ giveL ch cs vs
  | _, _ => []
theorem go_give {ch : Ch} : ∀ {cs : List Col} {vs : List V} {acc acc' : List (Key × V)}, rowGo ch cs vs acc = some acc' → acc' = mergeK acc (giveL ch cs vs)
  | c :: cs, v :: vs, acc, acc', h => by
    have h : (if isMis (chgV c.name ch v) = true then none else rowGo ch cs vs (stepR ch c (chgV c.name ch v) acc)) = some acc' := h
    cases hm : isMis (chgV c.name ch v) with
    | true =>
      rw [hm, if_pos rfl] at h
      cases h
    | false =>
      rw [hm, if_neg (by decide)] at h
      rw [go_give h, step_give]
      show List.foldl _ (List.foldl _ acc _) _ = List.foldl _ acc (giveR ch c (chgV c.name ch v) ++ giveL ch cs vs)
      rw [List.foldl_append]
  | [], vs, acc, acc', h => by
    have h : some acc = some acc' := by cases vs <;> exact h
    exact (Option.some.inj h).symm
  | _ :: _, [], acc, acc', h => (Option.some.inj (show some acc = some acc' from h)).symm
theorem go_free {ch : Ch} : ∀ {cs : List Col} {vs : List V} {acc : List (Key × V)}, (∀ (i : Nat) c v, cs[i]? = some c → vs[i]? = some v → isMis (chgV c.name ch v) = false) → ∃ acc', rowGo ch cs vs acc = some acc'
  | c :: cs, v :: vs, acc, h => by
    obtain ⟨acc', q⟩ := go_free (ch := ch) (cs := cs) (vs := vs) (acc := stepR ch c (chgV c.name ch v) acc) fun i c' v' h1 h2 => h (i + 1) c' v' (by simpa using h1) (by simpa using h2)
    refine ⟨acc', ?_⟩
    show (if isMis (chgV c.name ch v) = true then none else rowGo ch cs vs (stepR ch c (chgV c.name ch v) acc)) = some acc'
    rw [h 0 c v rfl rfl, if_neg (by decide)]
    exact q
  | [], vs, acc, _ => ⟨acc, by cases vs <;> rfl⟩
  | _ :: _, [], acc, _ => ⟨acc, rfl⟩
theorem give_keys {ch : Ch} : ∀ {cs : List Col} {vs : List V}, vs.length = cs.length → (giveL ch cs vs).map (·.1) = (cs.flatMap (colR ch)).map fun c => (Sum.inr c.name : Key)
  | [], [], _ => rfl
  | [], _ :: _, h => by cases h
  | _ :: _, [], h => by cases h
  | c :: cs, v :: vs, h => by
    show (giveR ch c (chgV c.name ch v) ++ giveL ch cs vs).map (·.1) = _
    rw [List.map_append, give_keys (Nat.succ.inj h), List.flatMap_cons, List.map_append]
    congr 1
    unfold giveR
    rw [List.map_map]
    rfl
theorem rowThen_give {cs : List Col} {ch : Ch} {num : Int} {kvs kvs' : List (Key × V)} (g : Good cs num) (f : ch.fits = true) (hz : hindV cs ch = .non) (r : RowD cs kvs) (h : rowThen cs ch kvs = some kvs') : kvs' = giveL ch cs (kvs.map (·.2)) ++ lastR ch := by
  unfold rowThen at h
  cases e : rowGo ch cs (kvs.map (·.2)) [] with
  | none =>
    rw [e] at h
    cases h
  | some acc =>
    rw [e] at h
    obtain rfl := Option.some.inj h
    have e1 := go_give e
    subst e1
    have e2 : endR ch (mergeK [] (giveL ch cs (kvs.map (·.2)))) = mergeK [] (giveL ch cs (kvs.map (·.2)) ++ lastR ch) := by
      cases ch with
      | add n gr d =>
        show putK (mergeK [] _) (Sum.inr n) d = List.foldl _ [] (_ ++ [(Sum.inr n, d)])
        rw [List.foldl_append]
        rfl
      | _ => exact (by show mergeK [] _ = mergeK [] (_ ++ []); rw [List.append_nil])
    rw [e2]
    have hk : (giveL ch cs (kvs.map (·.2)) ++ lastR ch).map (·.1) = ((behind cs ch num).map (·.name)).map (Sum.inr : Str → Key) := by
      rw [List.map_append, give_keys (by rw [List.length_map, r.1]), behind_flat, List.map_append, List.map_append, List.map_map]
      congr 1
      cases ch <;> rfl
    have e3 := merge_new (giveL ch cs (kvs.map (·.2)) ++ lastR ch) [] (by rw [List.nil_append, hk]; exact nodup_inr (g.step f hz).names)
    rw [List.nil_append] at e3
    exact e3
/-- which of two rows a number is of; none: a number of neither -/
def MixO (pick : Int → Option Bool) (n : Int) (v1 v2 vm : V) : Prop := match pick n with
  | none => v2 = v1 ∧ vm = v1
  | some false => vm = v1
  | some true => vm = v2
theorem MixO.map {pick : Int → Option Bool} {n : Int} {v1 v2 vm : V} (f : V → V) (h : MixO pick n v1 v2 vm) : MixO pick n (f v1) (f v2) (f vm) := by
  unfold MixO at h ⊢
  cases e : pick n with
  | none =>
    rw [e] at h
    exact ⟨congrArg f h.1, congrArg f h.2⟩
  | some b =>
    rw [e] at h
    cases b
    · exact congrArg f h
    · exact congrArg f h
inductive MixV (pick : Int → Option Bool) : List Col → List (Key × V) → List (Key × V) → List (Key × V) → Prop
  | nil : MixV pick [] [] [] []
  | cons {c : Col} {cs : List Col} {r1 r2 rm : List (Key × V)} {v1 v2 vm : V} : MixO pick c.num v1 v2 vm → MixV pick cs r1 r2 rm → MixV pick (c :: cs) ((Sum.inr c.name, v1) :: r1) ((Sum.inr c.name, v2) :: r2) ((Sum.inr c.name, vm) :: rm)
theorem MixV.app {pick : Int → Option Bool} : ∀ {cs ds : List Col} {r1 r2 rm s1 s2 sm : List (Key × V)}, MixV pick cs r1 r2 rm → MixV pick ds s1 s2 sm → MixV pick (cs ++ ds) (r1 ++ s1) (r2 ++ s2) (rm ++ sm)
  | _, _, _, _, _, _, _, _, .nil, h => h
  | _, _, _, _, _, _, _, _, .cons h t, q => .cons h (t.app q)
theorem mix_same {pick : Int → Option Bool} {n : Int} {w1 w2 wm : V} (h : MixO pick n w1 w2 wm) : ∀ {ds : List Col}, (∀ c ∈ ds, c.num = n) → MixV pick ds (ds.map fun c => (Sum.inr c.name, w1)) (ds.map fun c => (Sum.inr c.name, w2)) (ds.map fun c => (Sum.inr c.name, wm))
  | [], _ => .nil
  | d :: ds, k => .cons (by rw [k d List.mem_cons_self]; exact h) (mix_same h fun c hc => k c (List.mem_cons_of_mem _ hc))
theorem colR_num {ch : Ch} {c : Col} : ∀ c' ∈ colR ch c, c'.num = c.num := by
  intro c' h
  have one : ∀ d : Col, d.num = c.num → c' ∈ [d] → c'.num = c.num := fun d e q => by rw [List.mem_singleton.mp q]; exact e
  have hn : ∀ c2 : Ch, (if c.name = c2.name then chgC c c2 else c).num = c.num := fun c2 => by
    split
    · cases c2 <;> rfl
    · rfl
  cases ch with
  | add n g d => exact one c rfl h
  | drop n =>
    have h : c' ∈ (if c.name = n then [] else [c]) := h
    split at h
    · cases h
    · exact one c rfl h
  | rename n m => exact one _ (hn _) h
  | dflt n v => exact one _ (hn _) h
  | great n g way => exact one _ (hn _) h
  | fill n i => exact one _ (hn _) h
theorem mix_give {pick : Int → Option Bool} {ch : Ch} : ∀ {cs : List Col} {r1 r2 rm : List (Key × V)}, MixV pick cs r1 r2 rm → MixV pick (cs.flatMap (colR ch)) (giveL ch cs (r1.map (·.2))) (giveL ch cs (r2.map (·.2))) (giveL ch cs (rm.map (·.2)))
  | _, _, _, _, .nil => .nil
  | _, _, _, _, .cons (c := c) h t => by
    rw [List.flatMap_cons]
    exact (mix_same (h.map (chgV c.name ch)) colR_num).app (mix_give t)
theorem mix_step {pick : Int → Option Bool} {cs : List Col} {ch : Ch} {num : Int} {r1 r2 rm s1 s2 sm : List (Key × V)} (g : Good cs num) (f : ch.fits = true) (hz : hindV cs ch = .non) (d1 : RowD cs r1) (d2 : RowD cs r2) (dm : RowD cs rm) (new : pick num = none) (M : MixV pick cs r1 r2 rm)
    (h1 : rowThen cs ch r1 = some s1) (h2 : rowThen cs ch r2 = some s2) (hm : rowThen cs ch rm = some sm) : MixV pick (behind cs ch num) s1 s2 sm := by
  rw [rowThen_give g f hz d1 h1, rowThen_give g f hz d2 h2, rowThen_give g f hz dm hm, behind_flat]
  refine (mix_give M).app ?_
  cases ch with
  | add n gr d =>
    refine .cons ?_ .nil
    show MixO pick num d d d
    unfold MixO
    rw [new]
    exact ⟨rfl, rfl⟩
  | _ => exact .nil
theorem MixV.at_ {pick : Int → Option Bool} : ∀ {cs : List Col} {r1 r2 rm : List (Key × V)} {j : Nat} {c : Col}, MixV pick cs r1 r2 rm → cs[j]? = some c → ∃ v1 v2 vm, r1[j]? = some (Sum.inr c.name, v1) ∧ r2[j]? = some (Sum.inr c.name, v2) ∧ rm[j]? = some (Sum.inr c.name, vm) ∧ MixO pick c.num v1 v2 vm
  | _, _, _, _, _, _, .nil, h => by simp at h
  | _, _, _, _, 0, c, .cons h t, e => by
    obtain rfl := Option.some.inj e
    exact ⟨_, _, _, rfl, rfl, rfl, h⟩
  | _, _, _, _, j + 1, c, .cons h t, e => by
    obtain ⟨v1, v2, vm, h1, h2, h3, h4⟩ := MixV.at_ (j := j) t (by simpa using e)
    exact ⟨v1, v2, vm, by simpa using h1, by simpa using h2, by simpa using h3, h4⟩
theorem MixV.of {pick : Int → Option Bool} : ∀ {cs : List Col} {r1 r2 rm : List (Key × V)}, r1.length = cs.length → r2.length = cs.length → rm.length = cs.length →
    (∀ (j : Nat) (c : Col), cs[j]? = some c → ∃ v1 v2 vm, r1[j]? = some (Sum.inr c.name, v1) ∧ r2[j]? = some (Sum.inr c.name, v2) ∧ rm[j]? = some (Sum.inr c.name, vm) ∧ MixO pick c.num v1 v2 vm) → MixV pick cs r1 r2 rm
  | [], [], [], [], _, _, _, _ => .nil
  | [], _ :: _, _, _, h, _, _, _ => by cases h
  | [], [], _ :: _, _, _, h, _, _ => by cases h
  | [], [], [], _ :: _, _, _, h, _ => by cases h
  | _ :: _, [], _, _, h, _, _, _ => by cases h
  | _ :: _, _ :: _, [], _, _, h, _, _ => by cases h
  | _ :: _, _ :: _, _ :: _, [], _, _, h, _ => by cases h
  | c :: cs, a :: r1, b :: r2, m :: rm, l1, l2, l3, f => by
    obtain ⟨v1, v2, vm, h1, h2, h3, h4⟩ := f 0 c rfl
    obtain rfl := Option.some.inj h1
    obtain rfl := Option.some.inj h2
    obtain rfl := Option.some.inj h3
    exact .cons h4 (MixV.of (Nat.succ.inj l1) (Nat.succ.inj l2) (Nat.succ.inj l3) fun j c' hc => by
      obtain ⟨w1, w2, wm, k1, k2, k3, k4⟩ := f (j + 1) c' (by simpa using hc)
      exact ⟨w1, w2, wm, by simpa using k1, by simpa using k2, by simpa using k3, k4⟩)
theorem atC_up {cs : List Col} {chs : List Ch} {i : Nat} : ∀ t, i + t ≤ chs.length → (atC cs (chs.take i)).2 ≤ (atC cs (chs.take (i + t))).2
  | 0, _ => Int.le_refl _
  | t + 1, h => by
    have e : chs[i + t]? = some chs[i + t] := List.getElem?_eq_getElem (by omega)
    have ih := atC_up (cs := cs) (chs := chs) (i := i) t (by omega)
    rw [show i + (t + 1) = i + t + 1 from rfl, atC_snoc e]
    show _ ≤ numThen chs[i + t] (atC cs (chs.take (i + t))).2
    by_cases k : chs[i + t].kind = "add"
    · rw [kind_add k]
      omega
    · rw [kind_noadd k]
      exact ih
/-- three rows followed: none is barred, and the third stays put together of the two -/
theorem mix_fol {cs : List Col} {chs : List Ch} {i : Nat} {k1 k2 km : List (Key × V)} {pick : Int → Option Bool} (o : HistOk cs chs) (nr : ∀ ch ∈ chs, noRef ch = true) (d1 : RowD (atC cs (chs.take i)).1 k1) (d2 : RowD (atC cs (chs.take i)).1 k2) (dm : RowD (atC cs (chs.take i)).1 km)
    (M : MixV pick (atC cs (chs.take i)).1 k1 k2 km) (new : ∀ n, (atC cs (chs.take i)).2 ≤ n → pick n = none) : ∀ t, i + t ≤ chs.length → ∃ r1 r2 rm, folTo cs chs i k1 t = some r1 ∧ folTo cs chs i k2 t = some r2 ∧ folTo cs chs i km t = some rm ∧ MixV pick (atC cs (chs.take (i + t))).1 r1 r2 rm
  | 0, _ => ⟨k1, k2, km, rfl, rfl, rfl, M⟩
  | t + 1, h => by
    obtain ⟨r1, r2, rm, e1, e2, em, M'⟩ := mix_fol o nr d1 d2 dm M new t (by omega)
    have hc : chs[i + t]? = some chs[i + t] := List.getElem?_eq_getElem (by omega)
    obtain ⟨ft, hz⟩ := o.f (i + t) _ hc
    have g := o.f.good o.g (i + t) (by omega)
    have q1 := folTo_row o d1 t (by omega) r1 e1
    have q2 := folTo_row o d2 t (by omega) r2 e2
    have qm := folTo_row o dm t (by omega) rm em
    have free : ∀ r, RowD (atC cs (chs.take (i + t))).1 r → ∃ s, rowThen (atC cs (chs.take (i + t))).1 chs[i + t] r = some s := fun r q => by
      obtain ⟨acc, e⟩ := go_free (ch := chs[i + t]) (cs := (atC cs (chs.take (i + t))).1) (vs := r.map (·.2)) (acc := []) fun j c v h1 h2 => by
        obtain ⟨v', h3, h4⟩ := q.2 j c h1
        rw [List.getElem?_map, h3] at h2
        obtain rfl : v' = v := Option.some.inj h2
        exact noRef_free ft (nr _ (List.mem_of_getElem? hc)) h4
      exact ⟨_, by unfold rowThen; rw [e]; rfl⟩
    obtain ⟨s1, f1⟩ := free r1 q1
    obtain ⟨s2, f2⟩ := free r2 q2
    obtain ⟨sm, fm⟩ := free rm qm
    refine ⟨s1, s2, sm, by rw [folTo_succ e1 hc]; exact f1, by rw [folTo_succ e2 hc]; exact f2, by rw [folTo_succ em hc]; exact fm, ?_⟩
    rw [show i + (t + 1) = i + t + 1 from rfl, atC_snoc hc]
    exact mix_step g ft hz q1 q2 qm (new _ (atC_up t (by omega))) M' f1 f2 fm

/-! columns by their numbers, through the editions; what becomes of a value under a number -/
abbrev colsE (cs : List Col) (chs : List Ch) (i : Nat) : List Col := (atC cs (chs.take i)).1
abbrev numE (cs : List Col) (chs : List Ch) (i : Nat) : Int := (atC cs (chs.take i)).2
/-- the column with the number n at an edition -/
abbrev colE (cs : List Col) (chs : List Ch) (i : Nat) (n : Int) : Option Col := (colsE cs chs i).find? (isK n)
theorem findK_mem {cs : List Col} {n : Int} {c : Col} (h : cs.find? (isK n) = some c) : c ∈ cs ∧ c.num = n := by
  have h2 := List.find?_some h
  exact ⟨List.mem_of_find?_eq_some h, of_decide_eq_true (show decide (c.num = n) = true from h2)⟩
theorem findK_none {cs : List Col} {n : Int} (h : cs.find? (isK n) = none) : ∀ c ∈ cs, c.num ≠ n := fun c hc e => by
  have := List.find?_eq_none.mp h c hc
  exact this (decide_eq_true e)
theorem asc_find {cs : List Col} {c : Col} (a : Asc cs) (hc : c ∈ cs) : cs.find? (isK c.num) = some c := by
  cases h : cs.find? (isK c.num) with
  | none => exact absurd rfl (findK_none h c hc)
  | some d =>
    obtain ⟨h1, h2⟩ := findK_mem h
    obtain ⟨i, hi⟩ := List.mem_iff_getElem?.mp hc
    obtain ⟨j, hj⟩ := List.mem_iff_getElem?.mp h1
    obtain rfl := asc_uniq a hj hi h2
    rw [← hj, hi]
theorem mem_behind {cs : List Col} {ch : Ch} {num : Int} {c' : Col} : c' ∈ behind cs ch num ↔ (∃ c ∈ cs, c' ∈ colR ch c) ∨ c' ∈ newR ch num := by
  rw [behind_flat, List.mem_append, List.mem_flatMap]
theorem newR_num {ch : Ch} {num : Int} {c : Col} (h : c ∈ newR ch num) : c.num = num := by
  cases ch with
  | add n g d =>
    rw [List.mem_singleton.mp h]
  | _ => cases h
section
variable {cs : List Col} {chs : List Ch}
theorem colsE_succ {i : Nat} {ch : Ch} (h : chs[i]? = some ch) : colsE cs chs (i + 1) = behind (colsE cs chs i) ch (numE cs chs i) := by
  show (atC cs (chs.take (i + 1))).1 = _
  rw [atC_snoc h]
  rfl
theorem numE_succ {i : Nat} {ch : Ch} (h : chs[i]? = some ch) : numE cs chs (i + 1) = numThen ch (numE cs chs i) := by
  show (atC cs (chs.take (i + 1))).2 = _
  rw [atC_snoc h]
  rfl
theorem numE_mono {i j : Nat} (h : i ≤ j) : numE cs chs i ≤ numE cs chs j := grows h
/-- an elder number there behind a change was there ahead of it -/
theorem there_ahead {i : Nat} {n : Int} {c' : Col} (o : HistOk cs chs) {ch : Ch} (hc : chs[i]? = some ch) (h : colE cs chs (i + 1) n = some c') (hn : n < numE cs chs i) : ∃ c, colE cs chs i n = some c ∧ c' ∈ colR ch c := by
  obtain ⟨h1, h2⟩ := findK_mem h
  have h1 : c' ∈ behind (colsE cs chs i) ch (numE cs chs i) := by rw [← colsE_succ hc]; exact h1
  rcases mem_behind.mp h1 with ⟨c, h3, h4⟩ | h3
  · have e := colR_num c' h4
    refine ⟨c, ?_, h4⟩
    have hil := (List.getElem?_eq_some_iff.mp hc).1
    have := asc_find (asc_at o i (by omega)) h3
    rw [← e, h2] at this
    exact this
  · have := newR_num h3
    omega
theorem gone_on {i : Nat} {n : Int} (o : HistOk cs chs) {ch : Ch} (hc : chs[i]? = some ch) (h : colE cs chs i n = none) (hn : n < numE cs chs i) : colE cs chs (i + 1) n = none := by
  cases e : colE cs chs (i + 1) n with
  | none => rfl
  | some c' =>
    obtain ⟨c, h1, _⟩ := there_ahead o hc e hn
    rw [h] at h1
    cases h1
theorem gone_stays {i : Nat} {n : Int} (o : HistOk cs chs) (h : colE cs chs i n = none) (hn : n < numE cs chs i) : ∀ k, i + k ≤ chs.length → colE cs chs (i + k) n = none
  | 0, _ => h
  | k + 1, hk => by
    have hc : chs[i + k]? = some chs[i + k] := List.getElem?_eq_getElem (by omega)
    exact gone_on o hc (gone_stays o h hn k (by omega)) (Int.lt_of_lt_of_le hn (numE_mono (Nat.le_add_right i k)))
/-- one step of a value under a number -/
def stepN (cl : List Col) (ch : Ch) (n : Int) (v : V) : V := if isMis v = true then v else match cl.find? (isK n) with
  | some c => chgV c.name ch v
  | none => v
/-- what a value under a number becomes by the changes behind an edition, so many of them; MISSING where it is barred -/
def ledT (cs : List Col) (chs : List Ch) (n : Int) (s : Nat) (v : V) : Nat → V
  | 0 => v
  | k + 1 => match chs[s + k]? with
    | some ch => stepN (colsE cs chs (s + k)) ch n (ledT cs chs n s v k)
    | none => ledT cs chs n s v k
theorem ledT_succ {n : Int} {s k : Nat} {v : V} {ch : Ch} (h : chs[s + k]? = some ch) : ledT cs chs n s v (k + 1) = stepN (colsE cs chs (s + k)) ch n (ledT cs chs n s v k) := by
  show (match chs[s + k]? with
    | some ch => stepN (colsE cs chs (s + k)) ch n (ledT cs chs n s v k)
    | none => ledT cs chs n s v k) = _
  rw [h]
theorem stepN_mis {cl : List Col} {ch : Ch} {n : Int} {v : V} (h : isMis v = true) : stepN cl ch n v = v := if_pos h
theorem ledT_mis {n : Int} {s k : Nat} {v : V} (h : isMis (ledT cs chs n s v k) = true) : ∀ j, ledT cs chs n s v (k + j) = ledT cs chs n s v k
  | 0 => rfl
  | j + 1 => by
    show (match chs[s + (k + j)]? with
      | some ch => stepN (colsE cs chs (s + (k + j))) ch n (ledT cs chs n s v (k + j))
      | none => ledT cs chs n s v (k + j)) = _
    rw [ledT_mis h j]
    split
    · exact stepN_mis h
    · rfl
theorem ledT_gone {n : Int} {s k : Nat} {v : V} (o : HistOk cs chs) (h : colE cs chs (s + k) n = none) (hn : n < numE cs chs (s + k)) : ∀ j, s + k + j ≤ chs.length → ledT cs chs n s v (k + j) = ledT cs chs n s v k
  | 0, _ => rfl
  | j + 1, hj => by
    have hc : chs[s + (k + j)]? = some chs[s + (k + j)] := List.getElem?_eq_getElem (by omega)
    rw [show k + (j + 1) = (k + j) + 1 from rfl, ledT_succ hc, ledT_gone o h hn j (by omega)]
    have g := gone_stays o h hn j (by omega)
    rw [Nat.add_assoc] at g
    unfold stepN
    split
    · rfl
    · have g : (colsE cs chs (s + (k + j))).find? (isK n) = none := g
      rw [g]
theorem chg_val {n : Str} {ch : Ch} {v : V} (f : ch.fits = true) (h : isVal v = true) (hm : isMis (chgV n ch v) = false) : isVal (chgV n ch v) = true := by
  unfold chgV at hm ⊢
  split at hm
  · rename_i hn
    rw [if_pos hn]
    cases ch with
    | fill m i =>
      have f : (isNm (.str m) && decide (0 ≤ i)) = true := f
      cases v with
      | non => exact (Bool.and_eq_true_iff.mp f).2
      | _ => exact h
    | great m g way =>
      cases v with
      | int j =>
        have f : (isNm (.str m) && (isGr (.int g) && isWy way)) = true := f
        have hg := (Bool.and_eq_true_iff.mp (Bool.and_eq_true_iff.mp f).2).1
        have hg : (decide (1 ≤ g) && decide (g ≤ 99)) = true := hg
        have hg1 := of_decide_eq_true (Bool.and_eq_true_iff.mp hg).1
        show isVal (if g < j then abv g way else .int j) = true
        have hm : isMis (if g < j then abv g way else .int j) = false := hm
        split at hm
        · rename_i hj
          rw [if_pos hj]
          unfold abv at hm ⊢
          split at hm
          · rename_i hw
            rw [if_pos hw]
            exact decide_eq_true (by omega)
          · rename_i hw
            rw [if_neg hw]
            split at hm
            · rename_i hw2
              rw [if_pos hw2]
              rfl
            · rename_i hw2
              exact absurd hm (by decide)
        · rename_i hj
          rw [if_neg hj]
          exact h
      | _ => exact h
    | _ => exact h
  · rename_i hn
    rw [if_neg hn]
    exact h
theorem isVal_mis {v : V} (h : isVal v = true) : isMis v = false := by
  cases v with
  | str _ => cases h
  | _ => rfl
theorem isVal_ok {v : V} (h : isVal v = true) : valOk v = true := by
  cases v with
  | non => rfl
  | int _ => rfl
  | _ => cases h
theorem isVal_in {t : Int} {v : V} (h : isIn t v = true) : isVal v = true := by
  cases v with
  | non => rfl
  | int i => exact (Bool.and_eq_true_iff.mp (show (decide (0 ≤ i) && decide (i ≤ t)) = true from h)).1
  | _ => cases h
theorem stepN_val {cl : List Col} {ch : Ch} {n : Int} {v : V} (f : ch.fits = true) (h : isVal v = true) (hm : isMis (stepN cl ch n v) = false) : isVal (stepN cl ch n v) = true := by
  unfold stepN at hm ⊢
  rw [if_neg (by rw [isVal_mis h]; decide)] at hm ⊢
  cases e : cl.find? (isK n) with
  | none => exact h
  | some c =>
    rw [e] at hm
    exact chg_val f h hm
theorem ledT_mono {n : Int} {s k : Nat} {v : V} (h : isMis (ledT cs chs n s v (k + 1)) = false) : isMis (ledT cs chs n s v k) = false := by
  cases e : isMis (ledT cs chs n s v k) with
  | false => rfl
  | true =>
    rw [ledT_mis e 1, e] at h
    cases h
theorem ledT_val {n : Int} {s : Nat} {v : V} (o : HistOk cs chs) (h : isVal v = true) : ∀ k, isMis (ledT cs chs n s v k) = false → isVal (ledT cs chs n s v k) = true
  | 0, _ => h
  | k + 1, hm => by
    have ih := ledT_val o h k (ledT_mono hm)
    cases e : chs[s + k]? with
    | none =>
      have : ledT cs chs n s v (k + 1) = ledT cs chs n s v k := by
        show (match chs[s + k]? with
          | some ch => stepN (colsE cs chs (s + k)) ch n (ledT cs chs n s v k)
          | none => ledT cs chs n s v k) = _
        rw [e]
      rw [this]
      exact ih
    | some ch =>
      rw [ledT_succ e] at hm ⊢
      exact stepN_val (o.f _ _ e).1 ih hm
end

/-! births and drops: what the lists of a History tell -/
section
variable {cs : List Col} {chs : List Ch}
theorem bornStep_mem (i : Nat) : ∀ (cs : List Col) (b : List Int) (x : Int), x ∈ cs.foldl (bornStep i) b → x ∈ b ∨ x = (i : Int)
  | [], b, x, h => .inl h
  | c :: cs, b, x, h => by
    rcases bornStep_mem i cs _ x h with h | h
    · unfold bornStep at h
      split at h
      · rcases List.mem_append.mp h with h | h
        · exact .inl h
        · exact .inr (List.mem_singleton.mp h)
      · exact .inl h
    · exact .inr h
/-- the edition at which a number is first there -/
def BornIs (cs : List Col) (chs : List Ch) (n : Int) (b : Nat) : Prop := n < numE cs chs b ∧ ∀ i, i < b → numE cs chs i ≤ n
theorem BornIs.uniq {n : Int} {b b' : Nat} (h : BornIs cs chs n b) (h' : BornIs cs chs n b') : b = b' := by
  rcases Nat.lt_trichotomy b b' with q | q | q
  · have := h'.2 b q
    have := h.1
    omega
  · exact q
  · have := h.2 b' q
    have := h'.1
    omega
theorem born_to (o : HistOk cs chs) : ∀ i, i ≤ chs.length → ∀ n : Int, 0 ≤ n → n < numE cs chs i → ∃ b : Nat, (bornTo (edsTo cs chs (chs.length + 1)) (i + 1))[n.toNat]? = some ((b : Nat) : Int) ∧ b ≤ i ∧ BornIs cs chs n b
  | 0, _, n, h0, h1 => by
    have hl := o.f.born o.pl o.g 0 (Nat.zero_le _)
    have hn : n.toNat < (bornTo (edsTo cs chs (chs.length + 1)) (0 + 1)).length := by
      have h1 : n < (atC cs (chs.take 0)).2 := h1
      omega
    have hg := List.getElem?_eq_getElem hn
    have hm := List.mem_of_getElem? hg
    have e0 : bornTo (edsTo cs chs (chs.length + 1)) (0 + 1) = (List.getD (edsTo cs chs (chs.length + 1)) 0 []).foldl (bornStep 0) [] := rfl
    have hz : (bornTo (edsTo cs chs (chs.length + 1)) (0 + 1))[n.toNat] = ((0 : Nat) : Int) := by
      rcases bornStep_mem 0 _ [] _ (by rw [← e0]; exact hm) with h | h
      · cases h
      · exact h
    rw [hz] at hg
    exact ⟨0, hg, Nat.le_refl _, h1, fun i hi => by omega⟩
  | i + 1, hi, n, h0, h1 => by
    obtain ⟨ch, e⟩ : ∃ ch, chs[i]? = some ch := ⟨_, List.getElem?_eq_getElem (by omega)⟩
    have gd := o.f.good o.g i (by omega)
    have gd2 := gd.step (o.f i _ e).1 (o.f i _ e).2
    have hl : ((bornTo (edsTo cs chs (chs.length + 1)) (i + 1)).length : Int) = numE cs chs i := o.f.born o.pl o.g i (by omega)
    have eb : bornTo (edsTo cs chs (chs.length + 1)) (i + 1 + 1) = (behind (atC cs (chs.take i)).1 ch (atC cs (chs.take i)).2).foldl (bornStep (i + 1)) (bornTo (edsTo cs chs (chs.length + 1)) (i + 1)) := by
      show (List.getD (edsTo cs chs (chs.length + 1)) (i + 1) []).foldl (bornStep (i + 1)) _ = _
      rw [List.getD_eq_getElem?_getD, edsTo_get (by omega), atC_snoc e]
      rfl
    rw [numE_succ e] at h1
    by_cases hn : n < numE cs chs i
    · obtain ⟨b, h2, h3, h4⟩ := born_to o i (by omega) n h0 hn
      refine ⟨b, ?_, by omega, h4⟩
      have hlt := (List.getElem?_eq_some_iff.mp h2).1
      rw [eb]
      -- what was told stays
      have pre : ∀ (cl : List Col) (bb : List Int), n.toNat < bb.length → (cl.foldl (bornStep (i + 1)) bb)[n.toNat]? = bb[n.toNat]? := fun cl => by
        induction cl with
        | nil => exact fun bb _ => rfl
        | cons c cl ih =>
          intro bb hb
          show (cl.foldl (bornStep (i + 1)) (bornStep (i + 1) bb c))[n.toNat]? = _
          by_cases q : c.num = bb.length
          · rw [bornStep_pos q, ih _ (by rw [List.length_append]; omega), List.getElem?_append_left hb]
          · rw [bornStep_neg q]
            exact ih bb hb
      rw [pre _ _ hlt]
      exact h2
    · -- the number is new
      have ka : ch.kind = "add" := by
        cases hk : decide (ch.kind = "add") with
        | true => exact of_decide_eq_true hk
        | false =>
          rw [kind_noadd (of_decide_eq_false hk)] at h1
          exact absurd h1 hn
      rw [kind_add ka] at h1
      have en : n = numE cs chs i := by omega
      cases ch with
      | add nm gr d =>
        have hs : (atC cs (chs.take i)).1.foldl (bornStep (i + 1)) (bornTo (edsTo cs chs (chs.length + 1)) (i + 1)) = bornTo (edsTo cs chs (chs.length + 1)) (i + 1) := bornSame fun c hc => by rw [hl]; exact (gd.ok c hc).2
        rw [show behind (atC cs (chs.take i)).1 (.add nm gr d) (atC cs (chs.take i)).2 = (atC cs (chs.take i)).1 ++ [⟨nm, gr, d, (atC cs (chs.take i)).2⟩] from rfl, List.foldl_append, hs, List.foldl_cons, List.foldl_nil, bornStep_pos (show (atC cs (chs.take i)).2 = _ from hl.symm)] at eb
        refine ⟨i + 1, ?_, Nat.le_refl _, ?_, fun j hj => ?_⟩
        · have hl' : n.toNat = (bornTo (edsTo cs chs (chs.length + 1)) (i + 1)).length := by omega
          rw [eb, hl', List.getElem?_append_right (Nat.le_refl _), Nat.sub_self]
          rfl
        · rw [numE_succ e]
          show n < numE cs chs i + 1
          omega
        · rw [en]
          exact numE_mono (by omega)
      | drop _ => exact absurd (show ("drop" : Str) = "add" from ka) (by decide +kernel)
      | rename _ _ => exact absurd (show ("rename" : Str) = "add" from ka) (by decide +kernel)
      | dflt _ _ => exact absurd (show ("default" : Str) = "add" from ka) (by decide +kernel)
      | great _ _ _ => exact absurd (show ("greatest" : Str) = "add" from ka) (by decide +kernel)
      | fill _ _ => exact absurd (show ("fill" : Str) = "add" from ka) (by decide +kernel)
theorem numE_all : numE cs chs chs.length = (atC cs chs).2 := by
  show (atC cs (chs.take chs.length)).2 = _
  rw [List.take_length]
theorem born_at (o : HistOk cs chs) {n : Int} (h0 : 0 ≤ n) (h1 : n < (atC cs chs).2) : ∃ b : Nat, (bornH cs chs)[n.toNat]? = some ((b : Nat) : Int) ∧ b ≤ chs.length ∧ BornIs cs chs n b := by
  obtain ⟨b, h2, h3, h4⟩ := born_to o chs.length (Nat.le_refl _) n h0 (by rw [numE_all]; exact h1)
  refine ⟨b, ?_, h3, h4⟩
  unfold bornH bornOf
  rw [edsTo_len]
  exact h2
/-- a number is there at its birth -/
theorem born_there (o : HistOk cs chs) {n : Int} {b : Nat} (h0 : 0 ≤ n) (hb : b ≤ chs.length) (h : BornIs cs chs n b) : ∃ c, colE cs chs b n = some c := by
  cases b with
  | zero =>
    have h1 : n < (cs.length : Int) := h.1
    have hlt : n.toNat < cs.length := by omega
    have hg : cs[n.toNat]? = some (cs[n.toNat]'hlt) := List.getElem?_eq_getElem hlt
    have hp := o.pl _ _ hg
    refine ⟨cs[n.toNat]'hlt, ?_⟩
    have := asc_find (asc_at o 0 (Nat.zero_le _)) (List.mem_of_getElem? hg)
    rw [hp, show ((n.toNat : Nat) : Int) = n by omega] at this
    exact this
  | succ i =>
    obtain ⟨ch, e⟩ : ∃ ch, chs[i]? = some ch := ⟨_, List.getElem?_eq_getElem (by omega)⟩
    have h1 := h.1
    have h2 := h.2 i (Nat.lt_succ_self i)
    rw [numE_succ e] at h1
    cases ch with
    | add nm gr d =>
      have h1 : n < numE cs chs i + 1 := h1
      have en : n = numE cs chs i := by omega
      refine ⟨⟨nm, gr, d, numE cs chs i⟩, ?_⟩
      have hm : (⟨nm, gr, d, numE cs chs i⟩ : Col) ∈ colsE cs chs (i + 1) := by
        rw [colsE_succ e]
        exact List.mem_append_right _ (List.mem_singleton.mpr rfl)
      have := asc_find (asc_at o (i + 1) hb) hm
      show (colsE cs chs (i + 1)).find? (isK n) = _
      rw [en]
      exact this
    | _ => exact absurd h1 (by show ¬ n < numE cs chs i; omega)
/-- what stands in the list of drops for the number n behind so many editions -/
def DropIs (cs : List Col) (chs : List Ch) (n : Int) (i : Nat) (v : V) : Prop := (v = .non ∧ ∀ j, j < i → ¬ (∃ c, colE cs chs j n = some c) ∨ ∃ c, colE cs chs (j + 1) n = some c) ∨
  ∃ d : Nat, v = .int (d : Nat) ∧ 1 ≤ d ∧ d ≤ i ∧ (∃ c, colE cs chs (d - 1) n = some c) ∧ colE cs chs d n = none
theorem dropFold {next : List Col} {i : Nat} {n : Int} (h0 : 0 ≤ n) : ∀ (cl : List Col) (d : List V), (∀ c ∈ cl, 0 ≤ c.num) → n.toNat < d.length → (cl.foldl (dropStep next i) d)[n.toNat]? = if (∃ c ∈ cl, c.num = n) ∧ next.find? (isK n) = none then some (.int (i : Nat)) else d[n.toNat]?
  | [], d, _, _ => by
    rw [if_neg]
    · rfl
    · rintro ⟨⟨c, h, _⟩, _⟩
      cases h
  | c :: cl, d, hp, hl => by
    show (cl.foldl (dropStep next i) (dropStep next i d c))[n.toNat]? = _
    have hl2 : n.toNat < (dropStep next i d c).length := by
      unfold dropStep
      split
      · rw [List.length_set]; exact hl
      · exact hl
    rw [dropFold h0 cl _ (fun c' hc' => hp c' (List.mem_cons_of_mem _ hc')) hl2]
    have hc0 := hp c List.mem_cons_self
    by_cases h1 : (∃ c ∈ cl, c.num = n) ∧ next.find? (isK n) = none
    · rw [if_pos h1, if_pos ⟨by obtain ⟨⟨c', h2, h3⟩, _⟩ := h1; exact ⟨c', List.mem_cons_of_mem _ h2, h3⟩, h1.2⟩]
    · rw [if_neg h1]
      by_cases h2 : c.num = n
      · by_cases h3 : next.find? (isK n) = none
        · rw [if_pos ⟨⟨c, List.mem_cons_self, h2⟩, h3⟩]
          have hg : gone next c = true := by
            unfold gone
            rw [h2, h3]
            rfl
          unfold dropStep
          rw [if_pos hg, h2, List.getElem?_set_self hl]
        · rw [if_neg fun q => h3 q.2]
          have hg : ¬ gone next c = true := by
            unfold gone
            rw [h2]
            intro q
            exact h3 (Option.isNone_iff_eq_none.mp q)
          unfold dropStep
          rw [if_neg hg]
      · have : ¬ ((∃ c' ∈ c :: cl, c'.num = n) ∧ next.find? (isK n) = none) := by
          rintro ⟨⟨c', h3, h4⟩, h5⟩
          rcases List.mem_cons.mp h3 with rfl | h3
          · exact h2 h4
          · exact h1 ⟨⟨c', h3, h4⟩, h5⟩
        rw [if_neg this]
        unfold dropStep
        split
        · rw [List.getElem?_set_ne (by omega)]
        · rfl
theorem drop_to (o : HistOk cs chs) {n : Int} {m : Nat} (h0 : 0 ≤ n) (hm : n.toNat < m) : ∀ i, i ≤ chs.length → ∃ v, (dropTo (edsTo cs chs (chs.length + 1)) m i)[n.toNat]? = some v ∧ DropIs cs chs n i v
  | 0, _ => ⟨.non, by show (List.replicate m V.non)[n.toNat]? = _; rw [List.getElem?_replicate, if_pos hm], .inl ⟨rfl, fun j hj => by omega⟩⟩
  | i + 1, hi => by
    obtain ⟨v, h1, h2⟩ := drop_to o h0 hm i (by omega)
    have e : dropTo (edsTo cs chs (chs.length + 1)) m (i + 1) = (colsE cs chs i).foldl (dropStep (colsE cs chs (i + 1)) (i + 1)) (dropTo (edsTo cs chs (chs.length + 1)) m i) := by
      show (List.getD (edsTo cs chs (chs.length + 1)) i []).foldl (dropStep (List.getD (edsTo cs chs (chs.length + 1)) (i + 1) []) (i + 1)) _ = _
      rw [List.getD_eq_getElem?_getD, List.getD_eq_getElem?_getD, edsTo_get (by omega), edsTo_get (by omega)]
      rfl
    have gd := o.f.good o.g i (by omega)
    have f := dropFold (next := colsE cs chs (i + 1)) (i := i + 1) h0 (colsE cs chs i) (dropTo (edsTo cs chs (chs.length + 1)) m i) (fun c hc => (gd.ok c hc).1.nu) (by rw [dropTo_len]; exact hm)
    rw [e, f]
    split
    · rename_i q
      obtain ⟨⟨c, h3, h4⟩, h5⟩ := q
      refine ⟨_, rfl, .inr ⟨i + 1, rfl, by omega, Nat.le_refl _, ⟨c, ?_⟩, h5⟩⟩
      have := asc_find (asc_at o i (by omega)) h3
      rw [h4] at this
      exact this
    · rename_i q
      refine ⟨v, h1, ?_⟩
      rcases h2 with ⟨h3, h4⟩ | ⟨d, h3, h4, h5, h6⟩
      · refine .inl ⟨h3, fun j hj => ?_⟩
        by_cases hji : j < i
        · exact h4 j hji
        · obtain rfl : j = i := by omega
          cases hc : colE cs chs (j + 1) n with
          | some c => exact .inr ⟨c, rfl⟩
          | none =>
            refine .inl fun ⟨c, hc'⟩ => ?_
            obtain ⟨k1, k2⟩ := findK_mem hc'
            exact q ⟨⟨c, k1, k2⟩, hc⟩
      · exact .inr ⟨d, h3, h4, by omega, h6⟩
theorem drop_at (o : HistOk cs chs) {n : Int} (h0 : 0 ≤ n) (h1 : n < (atC cs chs).2) : ∃ v, (dropOf (edsTo cs chs (chs.length + 1)) (bornH cs chs).length)[n.toNat]? = some v ∧ DropIs cs chs n chs.length v := by
  have := o.born
  obtain ⟨v, h2, h3⟩ := drop_to o (m := (bornH cs chs).length) h0 (by omega) chs.length (Nat.le_refl _)
  refine ⟨v, ?_, h3⟩
  unfold dropOf
  rw [edsTo_len]
  exact h2
/-- the column with the number was dropped not behind an edition -/
def goneB (cs : List Col) (chs : List Ch) (n : Int) (e : Nat) : Bool := decide (n < numE cs chs e) && (colE cs chs e n).isNone
theorem DropIs.gone {n : Int} {v : V} (o : HistOk cs chs) (h0 : 0 ≤ n) (h1 : n < (atC cs chs).2) (h : DropIs cs chs n chs.length v) {e : Nat} (he : e ≤ chs.length) : goneB cs chs n e = match v with
    | .int d => decide (d ≤ (e : Nat))
    | _ => false := by
  obtain ⟨b, _, hb1, hb2⟩ := born_at o h0 h1
  rcases h with ⟨rfl, h2⟩ | ⟨d, rfl, h3, h4, h5, h6⟩
  · show goneB cs chs n e = false
    unfold goneB
    by_cases hn : n < numE cs chs e
    · have hbe : b ≤ e := by
        rcases Nat.lt_or_ge e b with q | q
        · have := hb2.2 e q
          omega
        · exact q
      have up : ∀ k, b + k ≤ chs.length → ∃ c, colE cs chs (b + k) n = some c := fun k => by
        induction k with
        | zero => exact fun _ => born_there o h0 hb1 hb2
        | succ k ih =>
          intro hk
          rcases h2 (b + k) (by omega) with q | q
          · exact absurd (ih (by omega)) q
          · exact q
      obtain ⟨c, hc⟩ := up (e - b) (by omega)
      rw [show b + (e - b) = e by omega] at hc
      rw [hc]
      exact Bool.and_false _
    · rw [decide_eq_false hn]
      rfl
  · show goneB cs chs n e = decide (((d : Nat) : Int) ≤ (e : Nat))
    obtain ⟨c, hc⟩ := h5
    have hn1 : n < numE cs chs (d - 1) := by
      obtain ⟨k1, k2⟩ := findK_mem hc
      have := ((o.f.good o.g (d - 1) (by omega)).ok c k1).2
      rw [← k2]
      exact this
    unfold goneB
    by_cases hde : d ≤ e
    · have hn : n < numE cs chs e := Int.lt_of_lt_of_le hn1 (numE_mono (by omega))
      have hg := gone_stays o h6 (Int.lt_of_lt_of_le hn1 (numE_mono (by omega))) (e - d) (by omega)
      rw [show d + (e - d) = e by omega] at hg
      rw [decide_eq_true hn, hg, decide_eq_true (by omega)]
      rfl
    · rw [decide_eq_false (by omega : ¬ ((d : Nat) : Int) ≤ (e : Nat))]
      by_cases hn : n < numE cs chs e
      · cases hg : colE cs chs e n with
        | some c => exact Bool.and_false _
        | none =>
          have hg2 := gone_stays o hg hn (d - 1 - e) (by omega)
          rw [show e + (d - 1 - e) = d - 1 by omega, hc] at hg2
          cases hg2
      · rw [decide_eq_false hn]
        rfl
end

/-! stored rows as data -/
/-- pairs of a number and a value, at the addresses -/
inductive Ents (K : PySem.W.Frag) (H : Hp) : List Addr → List (Int × V) → Prop
  | nil : Ents K H [] []
  | cons {a : Addr} {as : List Addr} {e : Int × V} {es : List (Int × V)} : SqT K H a [.int e.1, e.2] → Ents K H as es → Ents K H (a :: as) (e :: es)
theorem Ents.keep {K : PySem.W.Frag} {H H' : Hp} (s : Same H H') : ∀ {as : List Addr} {es : List (Int × V)}, Ents K H as es → Ents K H' as es
  | _, _, .nil => .nil
  | _, _, .cons h t => .cons (same_tup s h) (t.keep s)
theorem Ents.len {K : PySem.W.Frag} {H : Hp} : ∀ {as : List Addr} {es : List (Int × V)}, Ents K H as es → as.length = es.length
  | _, _, .nil => rfl
  | _, _, .cons _ t => congrArg Nat.succ t.len
theorem Ents.at_ {K : PySem.W.Frag} {H : Hp} : ∀ {as : List Addr} {es : List (Int × V)} {i : Nat} {a : Addr}, Ents K H as es → as[i]? = some a → ∃ e, es[i]? = some e ∧ SqT K H a [.int e.1, e.2]
  | _, _, _, _, .nil, e => by simp at e
  | _, _, 0, _, .cons h t, e => by
    simp at e
    subst e
    exact ⟨_, rfl, h⟩
  | _, _, i + 1, a, .cons h t, e => by
    obtain ⟨c, h1, h2⟩ := Ents.at_ (i := i) (a := a) t (by simpa using e)
    exact ⟨c, by simpa using h1, h2⟩
/-- a stored row stands at r -/
def StAt (K : PySem.W.Frag) (H : Hp) (r : Addr) (at_ : Int) (es : List (Int × V)) : Prop := ∃ (q : Addr) (as : List Addr), SqT K H r [.int at_, .ref q] ∧ SqT K H q (as.map V.ref) ∧ Ents K H as es
theorem StAt.keep {K : PySem.W.Frag} {H H' : Hp} {r : Addr} {e : Int} {es : List (Int × V)} (s : Same H H') (h : StAt K H r e es) : StAt K H' r e es := by
  obtain ⟨q, as, h1, h2, h3⟩ := h
  exact ⟨q, as, same_tup s h1, same_tup s h2, h3.keep s⟩
def isE (n : Int) (e : Int × V) : Bool := decide (e.1 = n)
def stV (es : List (Int × V)) (n : Int) : V := match es.find? (isE n) with
  | some e => e.2
  | none => .str "missing"

/-! rows put together, column by column -/
theorem put_new {acc : List (Key × V)} {k : Key} {v : V} (h : k ∉ acc.map (·.1)) : putK acc k v = acc ++ [(k, v)] := by
  unfold putK
  rw [any_no h, if_neg (by decide)]
theorem RowD.nil : RowD [] [] := ⟨rfl, fun j c h => by simp at h⟩
theorem RowD.more {cs : List Col} {kvs : List (Key × V)} {i : Nat} {c : Col} {v : V} (r : RowD (cs.take i) kvs) (hc : cs[i]? = some c) (nd : (cs.map (·.name)).Nodup) (hv : isIn c.top v = true) : putK kvs (Sum.inr c.name) v = kvs ++ [(Sum.inr c.name, v)] ∧ RowD (cs.take (i + 1)) (kvs ++ [(Sum.inr c.name, v)]) := by
  have hil := (List.getElem?_eq_some_iff.mp hc).1
  have hkl : kvs.length = i := by
    rw [r.1, List.length_take]
    omega
  have e : cs.take (i + 1) = cs.take i ++ [c] := by
    rw [List.take_add_one, hc]
    rfl
  refine ⟨put_new ?_, ?_, ?_⟩
  · rw [r.keys]
    intro hm
    obtain ⟨n, hn, q⟩ := List.mem_map.mp hm
    obtain rfl := Sum.inr.inj q
    have nd2 : ((cs.take (i + 1)).map (·.name)).Nodup := by
      rw [List.map_take]
      exact nd.sublist (List.take_sublist _ _)
    rw [e, List.map_append, List.nodup_append] at nd2
    exact nd2.2.2 _ hn _ (List.mem_singleton.mpr rfl) rfl
  · rw [List.length_append, hkl, e, List.length_append, List.length_take]
    show i + 1 = _ + 1
    omega
  · intro j c' hj
    rw [e] at hj
    by_cases hl : j < i
    · rw [List.getElem?_append_left (by rw [List.length_take]; omega)] at hj
      obtain ⟨v', h1, h2⟩ := r.2 j c' hj
      exact ⟨v', by rw [List.getElem?_append_left (by omega)]; exact h1, h2⟩
    · have hle := (List.getElem?_eq_some_iff.mp hj).1
      rw [List.length_append, List.length_take] at hle
      have hle : j < min i cs.length + 1 := hle
      obtain rfl : j = i := by omega
      rw [List.getElem?_append_right (by rw [List.length_take]; omega), List.length_take] at hj
      rw [show j - min j cs.length = 0 by omega] at hj
      obtain rfl := Option.some.inj hj
      exact ⟨v, by rw [List.getElem?_append_right (by omega), hkl, Nat.sub_self]; rfl, hv⟩
theorem gr_of {c : Col} (h : ColOk c) : 1 ≤ c.top ∧ c.top ≤ 99 := by
  have q : (decide (1 ≤ c.top) && decide (c.top ≤ 99)) = true := h.gr
  rw [Bool.and_eq_true] at q
  exact ⟨of_decide_eq_true q.1, of_decide_eq_true q.2⟩

/-! a row of the columns, by a value for each -/
def rowF (f : Col → V) (cs : List Col) : List (Key × V) := cs.map fun c => (Sum.inr c.name, f c)
theorem rowF_at {f : Col → V} {cs : List Col} {j : Nat} {c : Col} (h : cs[j]? = some c) : (rowF f cs)[j]? = some (Sum.inr c.name, f c) := by
  unfold rowF
  rw [List.getElem?_map, h]
  rfl
theorem rowF_len {f : Col → V} {cs : List Col} : (rowF f cs).length = cs.length := List.length_map ..
theorem rowF_keys {f : Col → V} {cs : List Col} : (rowF f cs).map (·.1) = (cs.map (·.name)).map Sum.inr := by
  unfold rowF
  rw [List.map_map, List.map_map]
  rfl
theorem rowF_take {f : Col → V} {cs : List Col} {j : Nat} {c : Col} (nd : (cs.map (·.name)).Nodup) (h : cs[j]? = some c) : putK (rowF f (cs.take j)) (Sum.inr c.name) (f c) = rowF f (cs.take (j + 1)) := by
  have e : cs.take (j + 1) = cs.take j ++ [c] := by
    rw [List.take_add_one, h]
    rfl
  have e2 : rowF f (cs.take (j + 1)) = rowF f (cs.take j) ++ [(Sum.inr c.name, f c)] := by
    rw [e]
    unfold rowF
    rw [List.map_append]
    rfl
  rw [e2, put_new]
  rw [rowF_keys]
  intro hm
  obtain ⟨n, hn, q⟩ := List.mem_map.mp hm
  obtain rfl := Sum.inr.inj q
  have nd2 : ((cs.take (j + 1)).map (·.name)).Nodup := by
    rw [List.map_take]
    exact nd.sublist (List.take_sublist _ _)
  rw [e, List.map_append, List.nodup_append] at nd2
  exact nd2.2.2 _ hn _ (List.mem_singleton.mpr rfl) rfl

/-! stored rows that stand with their tuple known -/
def entsOf (cs : List Col) (kvs : List (Key × V)) : List (Int × V) := cs.mapIdx fun j c => (c.num, match kvs[j]? with
  | some kv => kv.2
  | none => .non)
theorem entsOf_len {cs : List Col} {kvs : List (Key × V)} : (entsOf cs kvs).length = cs.length := List.length_mapIdx
theorem entsOf_at {cs : List Col} {kvs : List (Key × V)} (r : RowD cs kvs) {j : Nat} {c : Col} (h : cs[j]? = some c) : ∃ v, (entsOf cs kvs)[j]? = some (c.num, v) ∧ kvs[j]? = some (Sum.inr c.name, v) ∧ isIn c.top v = true := by
  obtain ⟨v, h1, h2⟩ := r.2 j c h
  refine ⟨v, ?_, h1, h2⟩
  unfold entsOf
  rw [List.getElem?_mapIdx, h]
  show some (c.num, match kvs[j]? with | some kv => kv.2 | none => V.non) = _
  rw [h1]
theorem RowD.fit {cs : List Col} {kvs : List (Key × V)} (r : RowD cs kvs) : FitE cs (entsOf cs kvs) := ⟨entsOf_len, fun j c h => by
  obtain ⟨v, h1, _, h2⟩ := entsOf_at r h
  exact ⟨v, h1, h2⟩⟩
theorem Ents.of_vs {K : PySem.W.Frag} {H : Hp} : ∀ {ys : List V} {es : List (Int × V)}, ys.length = es.length → (∀ (i : Nat) (y : V), ys[i]? = some y → ∃ t e, y = .ref t ∧ es[i]? = some e ∧ SqT K H t [.int e.1, e.2]) → ∃ as, ys = as.map V.ref ∧ Ents K H as es
  | [], [], _, _ => ⟨[], rfl, .nil⟩
  | [], _ :: _, h, _ => by cases h
  | _ :: _, [], h, _ => by cases h
  | y :: ys, e :: es, h, f => by
    obtain ⟨t, e', rfl, q, ht⟩ := f 0 y rfl
    obtain rfl : e = e' := Option.some.inj q
    obtain ⟨as, rfl, hh⟩ := Ents.of_vs (ys := ys) (es := es) (Nat.succ.inj h) fun i y' h1 => f (i + 1) y' (by simpa using h1)
    exact ⟨t :: as, rfl, .cons ht hh⟩
def keyE (e : Int × V) : Key × V := (Sum.inl e.1, e.2)
theorem keyE_nodup {cs : List Col} {kvs : List (Key × V)} (a : Asc cs) : (((entsOf cs kvs).map keyE).map (·.1)).Nodup := by
  have e : ((entsOf cs kvs).map keyE).map (·.1) = (cs.map (·.num)).map (Sum.inl : Int → Key) := by
    rw [List.map_map, List.map_map]
    refine List.ext_getElem? fun j => ?_
    rw [List.getElem?_map, List.getElem?_map]
    unfold entsOf
    rw [List.getElem?_mapIdx]
    cases cs[j]? <;> rfl
  rw [e]
  unfold List.Nodup
  rw [List.pairwise_map]
  exact List.Pairwise.imp (fun h q => by have := Sum.inl.inj q; omega) a
/-- a stored row at r, its inner tuple's object known -/
def StF (K : PySem.W.Frag) (H : Hp) (r : Addr) (ed : Int) (es : List (Int × V)) : Prop := ∃ (q : Addr) (as : List Addr) (o : Obj), SqT K H r [.int ed, .ref q] ∧ H q = some (.frz o (.tup (as.map V.ref))) ∧ o.dict = none ∧ Ents K H as es
theorem StF.st {K : PySem.W.Frag} {H : Hp} {r : Addr} {ed : Int} {es : List (Int × V)} (h : StF K H r ed es) : StAt K H r ed es := by
  obtain ⟨q, as, o, h1, h2, _, h4⟩ := h
  exact ⟨q, as, h1, .inl (.inr ⟨o, h2⟩), h4⟩
theorem StF.keep {K : PySem.W.Frag} {H H' : Hp} {r : Addr} {ed : Int} {es : List (Int × V)} (s : Same H H') (h : StF K H r ed es) : StF K H' r ed es := by
  obtain ⟨q, as, o, h1, h2, h3, h4⟩ := h
  exact ⟨q, as, o, same_tup s h1, s _ _ h2, h3, h4.keep s⟩
theorem ty_in {K : PySem.W.Frag} {g : Int} {v : V} (h : isIn g v = true) : ∃ t, ∀ H : Hp, TyX K H v (.type t) := by
  cases v with
  | non => exact ⟨_, fun _ => .base .non⟩
  | int i => exact ⟨_, fun _ => .base (.int i)⟩
  | _ => cases h
theorem cols_few {cs : List Col} {chs : List Ch} (o : HistOk cs chs) (u : V) : (colsAt cs chs u).length ≤ 1000 := by
  unfold colsAt
  by_cases h : (edOf chs.length u).toNat ≤ chs.length
  · have := (o.f.good o.g _ h).six
    omega
  · have e : chs.take (edOf chs.length u).toNat = chs.take chs.length := by rw [List.take_of_length_le (by omega), List.take_length]
    rw [e]
    have := (o.f.good o.g chs.length (Nat.le_refl _)).six
    omega
/-- the law's stored row is one -/
theorem scal_refl {g : Int} {v : V} (h : isIn g v = true) : scal v v = true := by
  cases v with
  | non => rfl
  | int i => rfl
  | _ => cases h
/-- what is stored under a number, as a law looks it up -/
theorem stV_head (es : List (Int × V)) (n : Int) : (((es.filter (isE n)).map (·.2)) ++ [V.str "missing"])[0]? = some (stV es n) := by
  have e : (es.filter (isE n))[0]? = es.find? (isE n) := by rw [← List.head?_eq_getElem?, List.head?_filter]
  unfold stV
  cases hf : es.filter (isE n) with
  | nil =>
    rw [hf] at e
    rw [← e]
    rfl
  | cons x xs =>
    rw [hf] at e
    rw [← e]
    rfl
theorem scal_st {cs : List Col} {es : List (Int × V)} (f : FitE cs es) (n : Int) : scal (stV es n) (stV es n) = true := by
  unfold stV
  cases hf : es.find? (isE n) with
  | none => rfl
  | some e =>
    obtain ⟨j, hj⟩ := List.mem_iff_getElem?.mp (List.mem_of_find?_eq_some hf)
    have hjl := (List.getElem?_eq_some_iff.mp hj).1
    obtain ⟨v, h1, h2⟩ := f.2 j (cs[j]'(by rw [← f.1]; exact hjl)) (List.getElem?_eq_getElem _)
    obtain rfl := Option.some.inj (h1.symm.trans hj)
    exact scal_refl h2
theorem Ents.keepT {K : PySem.W.Frag} {H H' : Hp} (s : KeepT H H') : ∀ {as : List Addr} {es : List (Int × V)}, Ents K H as es → Ents K H' as es
  | _, _, .nil => .nil
  | _, _, .cons h t => .cons (sqT_keepT s h) (t.keepT s)
theorem StF.keepT {K : PySem.W.Frag} {H H' : Hp} {r : Addr} {ed : Int} {es : List (Int × V)} (s : KeepT H H') (h : StF K H r ed es) : StF K H' r ed es := by
  obtain ⟨q, as, o, h1, h2, h3, h4⟩ := h
  exact ⟨q, as, o, sqT_keepT s h1, s _ _ (fun _ z => by cases z) (fun _ z => by cases z) h2, h3, h4.keepT s⟩
theorem Ents.of_at {K : PySem.W.Frag} {H : Hp} : ∀ {as : List Addr} {es : List (Int × V)}, as.length = es.length → (∀ (i : Nat) a e, as[i]? = some a → es[i]? = some e → SqT K H a [.int e.1, e.2]) → Ents K H as es
  | [], [], _, _ => .nil
  | [], _ :: _, h, _ => by cases h
  | _ :: _, [], h, _ => by cases h
  | a :: as, e :: es, h, f => .cons (f 0 a e rfl rfl) (Ents.of_at (Nat.succ.inj h) fun i a' e' h1 h2 => f (i + 1) a' e' (by simpa using h1) (by simpa using h2))

/-! stored rows that stand; what is barred stays so -/
theorem folTo_none {cs : List Col} {chs : List Ch} {i : Nat} {kvs : List (Key × V)} {m : Nat} (h : folTo cs chs i kvs m = none) : ∀ k, folTo cs chs i kvs (m + k) = none
  | 0 => h
  | k + 1 => by
    show (match folTo cs chs i kvs (m + k), chs[i + (m + k)]? with
      | some r, some ch => rowThen (atC cs (chs.take (i + (m + k)))).1 ch r
      | _, _ => none) = _
    rw [folTo_none h k]
theorem folTo_le {cs : List Col} {chs : List Ch} {i : Nat} {kvs : List (Key × V)} {m n : Nat} (h : folTo cs chs i kvs m = none) (hmn : m ≤ n) : folTo cs chs i kvs n = none := by
  have := folTo_none h (n - m)
  rwa [show m + (n - m) = n by omega] at this
/-- a stored row of edition i stands at r -/
structure RowAt (K : PySem.W.Frag) (H : Hp) (cs : List Col) (chs : List Ch) (r : Addr) (i : Nat) (es : List (Int × V)) : Prop where
  sf : StF K H r (i : Nat) es
  fit : FitE (atC cs (chs.take i)).1 es
  le : i ≤ chs.length
theorem RowAt.st {K : PySem.W.Frag} {H : Hp} {cs : List Col} {chs : List Ch} {r : Addr} {i : Nat} {es : List (Int × V)} (h : RowAt K H cs chs r i es) : StAt K H r (i : Nat) es := h.sf.st
theorem RowAt.keep {K : PySem.W.Frag} {H H' : Hp} {cs : List Col} {chs : List Ch} {r : Addr} {i : Nat} {es : List (Int × V)} (s : Same H H') (h : RowAt K H cs chs r i es) : RowAt K H' cs chs r i es := ⟨h.sf.keep s, h.fit, h.le⟩

/-! a row followed, number by number -/
section
variable {cs : List Col} {chs : List Ch}
def bornN (cs : List Col) (chs : List Ch) (n : Int) : Nat := match (bornH cs chs)[n.toNat]? with
  | some b => b.toNat
  | none => 0
theorem bornN_spec (o : HistOk cs chs) {n : Int} (h0 : 0 ≤ n) (h1 : n < (atC cs chs).2) : (bornH cs chs)[n.toNat]? = some ((bornN cs chs n : Nat) : Int) ∧ bornN cs chs n ≤ chs.length ∧ BornIs cs chs n (bornN cs chs n) := by
  obtain ⟨b, h2, h3, h4⟩ := born_at o h0 h1
  have e : bornN cs chs n = b := by
    unfold bornN
    rw [h2]
    exact Int.toNat_natCast b
  rw [e]
  exact ⟨h2, h3, h4⟩
/-- the default with which a number was there first -/
def dfltB (cs : List Col) (chs : List Ch) (n : Int) : V := match colE cs chs (bornN cs chs n) n with
  | some c => c.dflt
  | none => .non
/-- what a row of the edition i has under the number n behind t changes -/
def valAt (cs : List Col) (chs : List Ch) (i : Nat) (es : List (Int × V)) (n : Int) (t : Nat) : V := if n < numE cs chs i then ledT cs chs n i (stV es n) t else ledT cs chs n (bornN cs chs n) (dfltB cs chs n) (i + t - bornN cs chs n)
theorem born_le (o : HistOk cs chs) {n : Int} {e : Nat} (h0 : 0 ≤ n) (he : e ≤ chs.length) (h : n < numE cs chs e) : bornN cs chs n ≤ e := by
  have h1 : n < (atC cs chs).2 := by rw [← numE_all]; exact Int.lt_of_lt_of_le h (numE_mono he)
  obtain ⟨_, _, h2⟩ := bornN_spec o h0 h1
  rcases Nat.lt_or_ge e (bornN cs chs n) with q | q
  · have := h2.2 e q
    omega
  · exact q
theorem valAt_succ (o : HistOk cs chs) {i t : Nat} {es : List (Int × V)} {n : Int} {ch : Ch} (h0 : 0 ≤ n) (hc : chs[i + t]? = some ch) (hn : n < numE cs chs (i + t)) : valAt cs chs i es n (t + 1) = stepN (colsE cs chs (i + t)) ch n (valAt cs chs i es n t) := by
  have hil := (List.getElem?_eq_some_iff.mp hc).1
  unfold valAt
  split
  · exact ledT_succ hc
  · have hb := born_le o h0 (by omega) hn
    have e : bornN cs chs n + (i + t - bornN cs chs n) = i + t := by omega
    rw [show i + (t + 1) - bornN cs chs n = (i + t - bornN cs chs n) + 1 by omega, ledT_succ (by rw [e]; exact hc), e]
theorem go_barred {ch : Ch} : ∀ {cs : List Col} {vs : List V} {acc : List (Key × V)} {i : Nat} {c : Col} {v : V}, cs[i]? = some c → vs[i]? = some v → isMis (chgV c.name ch v) = true → rowGo ch cs vs acc = none
  | [], _, _, _, _, _, h, _, _ => by simp at h
  | _ :: _, [], _, _, _, _, _, h, _ => by simp at h
  | c :: cs, v :: vs, acc, i, c', v', h1, h2, h3 => by
    show (if isMis (chgV c.name ch v) = true then none else rowGo ch cs vs (stepR ch c (chgV c.name ch v) acc)) = none
    cases hm : isMis (chgV c.name ch v) with
    | true => rw [if_pos rfl]
    | false =>
      rw [if_neg (by decide)]
      match i, h1, h2 with
      | 0, h1, h2 =>
        obtain rfl := Option.some.inj h1
        obtain rfl := Option.some.inj h2
        rw [hm] at h3
        cases h3
      | i + 1, h1, h2 => exact go_barred (i := i) (by simpa using h1) (by simpa using h2) h3
theorem give_rowF {ch : Ch} {f f' : Col → V} : ∀ {cs : List Col}, (∀ c ∈ cs, ∀ c' ∈ colR ch c, f' c' = chgV c.name ch (f c)) → giveL ch cs (cs.map f) = rowF f' (cs.flatMap (colR ch))
  | [], _ => rfl
  | c :: cs, h => by
    show giveR ch c (chgV c.name ch (f c)) ++ giveL ch cs (cs.map f) = _
    rw [give_rowF fun d hd => h d (List.mem_cons_of_mem _ hd), List.flatMap_cons]
    unfold rowF giveR
    rw [List.map_append]
    congr 1
    exact List.map_congr_left fun c' hc' => by rw [h c List.mem_cons_self c' hc']
/-- the number n is one that the row of the edition i speaks of -/
def Rel (cs : List Col) (chs : List Ch) (i : Nat) (n : Int) (t : Nat) : Prop := 0 ≤ n ∧ n < numE cs chs (i + t) ∧ (numE cs chs i ≤ n ∨ ∃ c, colE cs chs i n = some c)
theorem st_fit {cl : List Col} {es : List (Int × V)} (f : FitE cl es) (a : Asc cl) {j : Nat} {c : Col} (h : cl[j]? = some c) : ∃ v, es[j]? = some (c.num, v) ∧ stV es c.num = v ∧ isIn c.top v = true := by
  obtain ⟨v, h1, h2⟩ := f.2 j c h
  refine ⟨v, h1, ?_, h2⟩
  unfold stV
  cases e : es.find? (isE c.num) with
  | none =>
    have := List.find?_eq_none.mp e _ (List.mem_of_getElem? h1)
    exact absurd (decide_eq_true rfl) this
  | some p =>
    have h3 := List.find?_some e
    have h3 : p.1 = c.num := of_decide_eq_true h3
    obtain ⟨k, hk⟩ := List.mem_iff_getElem?.mp (List.mem_of_find?_eq_some e)
    have hkl := (List.getElem?_eq_some_iff.mp hk).1
    rw [f.1] at hkl
    obtain ⟨v', h4, _⟩ := f.2 k _ (List.getElem?_eq_getElem hkl)
    have e1 := Option.some.inj (hk.symm.trans h4)
    have e2 : cl[k].num = c.num := by rw [← h3, e1]
    obtain rfl := asc_uniq a (List.getElem?_eq_getElem hkl) h e2
    have e3 := Option.some.inj (hk.symm.trans h1)
    rw [e3]
theorem rowE_led (o : HistOk cs chs) {i : Nat} {es : List (Int × V)} (hi : i ≤ chs.length) (f : FitE (colsE cs chs i) es) : rowE (colsE cs chs i) es = rowF (fun c => valAt cs chs i es c.num 0) (colsE cs chs i) := by
  have a := asc_at o i hi
  have g := o.f.good o.g i hi
  refine List.ext_getElem? fun j => ?_
  cases hc : (colsE cs chs i)[j]? with
  | none =>
    have hl := List.getElem?_eq_none_iff.mp hc
    rw [List.getElem?_eq_none (by rw [rowE_len]; exact hl), List.getElem?_eq_none (by rw [rowF_len]; exact hl)]
  | some c =>
    obtain ⟨v, h1, h2, _⟩ := rowE_at f hc
    obtain ⟨v', h3, h4, _⟩ := st_fit f a hc
    rw [h1, rowF_at hc]
    have hn := (g.ok c (List.mem_of_getElem? hc)).2
    obtain rfl : v = v' := congrArg Prod.snd (Option.some.inj (h2.symm.trans h3))
    unfold valAt
    rw [if_pos hn, ← h4]
    rfl
theorem row_led (o : HistOk cs chs) {i : Nat} {es : List (Int × V)} (hi : i ≤ chs.length) (f : FitE (colsE cs chs i) es) : ∀ t, i + t ≤ chs.length →
    (folTo cs chs i (rowE (colsE cs chs i) es) t = some (rowF (fun c => valAt cs chs i es c.num t) (colsE cs chs (i + t))) ∧ ∀ n, Rel cs chs i n t → isMis (valAt cs chs i es n t) = false) ∨
    (folTo cs chs i (rowE (colsE cs chs i) es) t = none ∧ ∃ n, Rel cs chs i n t ∧ isMis (valAt cs chs i es n t) = true)
  | 0, _ => by
    have a := asc_at o i hi
    refine .inl ⟨congrArg some (rowE_led o hi f), fun n hn => ?_⟩
    obtain ⟨h0, h1, h2⟩ := hn
    have h1 : n < numE cs chs i := h1
    rcases h2 with h2 | ⟨c, hc⟩
    · omega
    · obtain ⟨k1, k2⟩ := findK_mem hc
      obtain ⟨j, hj⟩ := List.mem_iff_getElem?.mp k1
      obtain ⟨v, _, h4, h5⟩ := st_fit f a hj
      have e : valAt cs chs i es n 0 = v := by
        unfold valAt
        rw [if_pos h1, ← h4, k2]
        rfl
      rw [e]
      exact isVal_mis (isVal_in h5)
  | t + 1, ht => by
    have hc : chs[i + t]? = some chs[i + t] := List.getElem?_eq_getElem (by omega)
    generalize chs[i + t] = ch at hc
    obtain ⟨ft, hz⟩ := o.f (i + t) _ hc
    have g := o.f.good o.g (i + t) (by omega)
    have hmono : numE cs chs (i + t) ≤ numE cs chs (i + (t + 1)) := numE_mono (by omega)
    rcases row_led o hi f t (by omega) with ⟨h1, h2⟩ | ⟨h1, n, h2, h3⟩
    · have hrow := folTo_row o (rowE_row f) t (by omega) _ h1
      have hfs := folTo_succ h1 hc
      rw [hfs]
      have relc : ∀ c ∈ colsE cs chs (i + t), Rel cs chs i c.num t := fun c hcm => by
        refine ⟨(g.ok c hcm).1.nu, (g.ok c hcm).2, ?_⟩
        rcases Int.lt_or_le c.num (numE cs chs i) with q | q
        · refine .inr ?_
          cases e : colE cs chs i c.num with
          | some d => exact ⟨d, rfl⟩
          | none =>
            have := gone_stays o e q t (by omega)
            have h9 : colE cs chs (i + t) c.num = some c := asc_find (asc_at o (i + t) (by omega)) hcm
            rw [h9] at this
            cases this
        · exact .inl q
      have hmap : (rowF (fun c => valAt cs chs i es c.num t) (colsE cs chs (i + t))).map (·.2) = (colsE cs chs (i + t)).map (fun c => valAt cs chs i es c.num t) := by
        unfold rowF
        rw [List.map_map]
        rfl
      have stepc : ∀ c ∈ colsE cs chs (i + t), valAt cs chs i es c.num (t + 1) = chgV c.name ch (valAt cs chs i es c.num t) := fun c hcm => by
        obtain ⟨r0, r1, r2⟩ := relc c hcm
        rw [valAt_succ o r0 hc r1]
        unfold stepN
        rw [if_neg (by rw [h2 _ (relc c hcm)]; decide)]
        have h9 : (colsE cs chs (i + t)).find? (isK c.num) = some c := asc_find (asc_at o (i + t) (by omega)) hcm
        rw [h9]
      by_cases hb : ∃ c ∈ colsE cs chs (i + t), isMis (chgV c.name ch (valAt cs chs i es c.num t)) = true
      · obtain ⟨c, hcm, hm⟩ := hb
        refine .inr ⟨?_, c.num, ?_, by rw [stepc c hcm]; exact hm⟩
        · unfold rowThen
          obtain ⟨j, hj⟩ := List.mem_iff_getElem?.mp hcm
          rw [hmap, go_barred (i := j) (c := c) (v := valAt cs chs i es c.num t) hj (by rw [List.getElem?_map, hj]; rfl) hm]
          rfl
        · obtain ⟨r0, r1, r2⟩ := relc c hcm
          exact ⟨r0, by omega, r2⟩
      · have free : ∀ c ∈ colsE cs chs (i + t), isMis (chgV c.name ch (valAt cs chs i es c.num t)) = false := fun c hcm => by
          cases hm : isMis (chgV c.name ch (valAt cs chs i es c.num t)) with
          | false => rfl
          | true => exact absurd ⟨c, hcm, hm⟩ hb
        obtain ⟨acc, hgo⟩ := go_free (ch := ch) (cs := colsE cs chs (i + t)) (vs := (colsE cs chs (i + t)).map (fun c => valAt cs chs i es c.num t)) (acc := []) fun j c v q1 q2 => by
          rw [List.getElem?_map, q1] at q2
          obtain rfl := Option.some.inj q2
          exact free c (List.mem_of_getElem? q1)
        have hthen : rowThen (colsE cs chs (i + t)) ch (rowF (fun c => valAt cs chs i es c.num t) (colsE cs chs (i + t))) = some (endR ch acc) := by
          unfold rowThen
          rw [hmap, hgo]
          rfl
        have hgive := rowThen_give g ft hz hrow hthen
        -- a new number
        have newv : ∀ c ∈ newR ch (numE cs chs (i + t)), lastR ch = [(Sum.inr c.name, c.dflt)] ∧ valAt cs chs i es c.num (t + 1) = c.dflt ∧ isVal c.dflt = true := fun c hcn => by
          cases ch with
          | add nm gr d =>
            have e := List.mem_singleton.mp hcn
            subst e
            have f2 : isVal d = true := (Bool.and_eq_true_iff.mp (Bool.and_eq_true_iff.mp (show (isNm (.str nm) && (isGr (.int gr) && isVal d)) = true from ft)).2).2
            refine ⟨rfl, ?_, f2⟩
            show valAt cs chs i es (numE cs chs (i + t)) (t + 1) = d
            have hn0 := g.nn
            have hin : ¬ numE cs chs (i + t) < numE cs chs i := by
              have := numE_mono (cs := cs) (chs := chs) (show i ≤ i + t by omega)
              omega
            have e1 : numE cs chs (i + t + 1) = numE cs chs (i + t) + 1 := numE_succ hc
            have bi : BornIs cs chs (numE cs chs (i + t)) (i + t + 1) := ⟨by omega, fun j hj => numE_mono (by omega)⟩
            have hall : numE cs chs (i + t) < (atC cs chs).2 := by
              have := numE_mono (cs := cs) (chs := chs) (show i + t + 1 ≤ chs.length by omega)
              rw [numE_all] at this
              omega
            have eb : bornN cs chs (numE cs chs (i + t)) = i + t + 1 := (bornN_spec o hn0 hall).2.2.uniq bi
            have hm : (⟨nm, gr, d, numE cs chs (i + t)⟩ : Col) ∈ colsE cs chs (i + t + 1) := by
              rw [colsE_succ hc]
              exact List.mem_append_right _ (List.mem_singleton.mpr rfl)
            have hf : colE cs chs (i + t + 1) (numE cs chs (i + t)) = some ⟨nm, gr, d, numE cs chs (i + t)⟩ := asc_find (asc_at o (i + t + 1) (by omega)) hm
            unfold valAt
            rw [if_neg hin, eb, show i + (t + 1) - (i + t + 1) = 0 by omega]
            show dfltB cs chs (numE cs chs (i + t)) = d
            unfold dfltB
            rw [eb, hf]
          | _ => cases hcn
        refine .inl ⟨?_, fun n hn => ?_⟩
        · rw [hthen, hgive, hmap, show i + (t + 1) = i + t + 1 from rfl, colsE_succ hc, behind_flat]
          congr 1
          rw [give_rowF (f' := fun c => valAt cs chs i es c.num (t + 1)) fun c hcm c' hc' => by
            show valAt cs chs i es c'.num (t + 1) = _
            rw [colR_num c' hc']
            exact stepc c hcm]
          unfold rowF
          rw [List.map_append]
          congr 1
          cases hk : newR ch (numE cs chs (i + t)) with
          | nil =>
            cases ch with
            | add _ _ _ => cases hk
            | _ => rfl
          | cons c r =>
            have hmem : c ∈ newR ch (numE cs chs (i + t)) := by rw [hk]; exact List.mem_cons_self
            obtain ⟨k1, k2, _⟩ := newv c hmem
            have hr : r = [] := by
              cases ch with
              | add _ _ _ => exact (List.cons.inj hk).2.symm
              | _ => cases hk
            rw [hr, k1]
            show [(Sum.inr c.name, c.dflt)] = [(Sum.inr c.name, valAt cs chs i es c.num (t + 1))]
            rw [k2]
        · obtain ⟨r0, r1, r2⟩ := hn
          rcases Int.lt_or_le n (numE cs chs (i + t)) with q | q
          · have hrel : Rel cs chs i n t := ⟨r0, q, r2⟩
            have hm := h2 n hrel
            rw [valAt_succ o r0 hc q]
            unfold stepN
            rw [if_neg (by rw [hm]; decide)]
            cases e : (colsE cs chs (i + t)).find? (isK n) with
            | none => exact hm
            | some c =>
              obtain ⟨k1, k2⟩ := findK_mem e
              have := free c k1
              rw [k2] at this
              exact this
          · have e1 : numE cs chs (i + (t + 1)) = numThen ch (numE cs chs (i + t)) := numE_succ hc
            rw [e1] at r1
            cases ch with
            | add nm gr d =>
              have r1 : n < numE cs chs (i + t) + 1 := r1
              obtain ⟨_, k2, k3⟩ := newv ⟨nm, gr, d, numE cs chs (i + t)⟩ (List.mem_singleton.mpr rfl)
              have en : n = numE cs chs (i + t) := by omega
              rw [en, k2]
              exact isVal_mis k3
            | _ =>
              have r1 : n < numE cs chs (i + t) := r1
              omega
    · obtain ⟨r0, r1, r2⟩ := h2
      refine .inr ⟨folTo_none h1 1, n, ⟨r0, by omega, r2⟩, ?_⟩
      rw [valAt_succ o r0 hc r1, stepN_mis h3]
      exact h3
end

/-! history.born(number) -/
def sp_Hist_born (K : PySem.W.Frag) : Sp := fun vs H Q _ => ∃ (h : Addr) (cs : List Col) (chs : List Ch) (n : Int), vs = [.ref h, .int n] ∧ HistAt K H h cs chs ∧ HistOk cs chs ∧ 0 ≤ n ∧ n < (atC cs chs).2 ∧ Q (.int (bornN cs chs n : Nat)) H
theorem ok_Hist_born (T : Tx K mg) : ∃ fd, FnOk P w K mg base CX0 3 (He.ma K (He.ga K "History") "born") fd ["self", "number"] (sp_Hist_born K) ∧ Binds K fd ["self", "number"] [] := by
  have C1 := ok_is_given (P := P) (w := w) (base := base) T
  refine mkMeth (fd_History_born T) sc_History_born (fun _ _ _ _ _ _ us hl => match us, hl with | [_, _], _ => rfl) (fun vs H Q E h => ?_) (fun cdv A outer s H vs Q E hr h => ?_)
  · obtain ⟨h, cs, chs, n, rfl, _⟩ := h
    rfl
  obtain ⟨h, cs, chs, n, rfl, hq, o, h0, h1, k⟩ := h
  obtain ⟨dx, e, c, b, d, es, ts, hh, he, hE, hc, hC, hb, hd⟩ := id hq
  obtain ⟨hb1, hb2, hb3⟩ := bornN_spec o h0 h1
  refine ⟨_, (pss_cons (ps_if (pt_not (pt_val (pcall C1 hr (pa_cons (pv 0) (pa_cons (pv 1) pa_nil))))) (pss_one ps_never) pss_nil)
        (pss_one (ps_ret (pe_ix ix_list (pe_fld (pv 0) rfl) (pv 1) (fun _ _ => rfl))))), ?_⟩
  refine ⟨_, rfl, _, rfl, h, cs, chs, n, rfl, hq, o, _, rfl, ?_⟩
  rw [decide_eq_true h0, decide_eq_true h1]
  refine iteF (nxt ⟨_, rfl, h, _, dx, _, _, rfl, hh, cl_History T, na_History__births T, histFs_births, _, rfl, b, _, n, _, rfl, rfl, sqL_of hb, ix_int h0 (by rw [List.getElem?_map, hb1]; rfl), k⟩)
/-! history.dropped(number) -/
def sp_Hist_dropped (K : PySem.W.Frag) : Sp := fun vs H Q _ => ∃ (h : Addr) (cs : List Col) (chs : List Ch) (n : Int), vs = [.ref h, .int n] ∧ HistAt K H h cs chs ∧ HistOk cs chs ∧ 0 ≤ n ∧ n < (atC cs chs).2 ∧ ∀ v, DropIs cs chs n chs.length v → Q v H
theorem ok_Hist_dropped (T : Tx K mg) : ∃ fd, FnOk P w K mg base CX0 3 (He.ma K (He.ga K "History") "dropped") fd ["self", "number"] (sp_Hist_dropped K) ∧ Binds K fd ["self", "number"] [] := by
  have C1 := ok_is_given (P := P) (w := w) (base := base) T
  refine mkMeth (fd_History_dropped T) sc_History_dropped (fun _ _ _ _ _ _ us hl => match us, hl with | [_, _], _ => rfl) (fun vs H Q E h => ?_) (fun cdv A outer s H vs Q E hr h => ?_)
  · obtain ⟨h, cs, chs, n, rfl, _⟩ := h
    rfl
  obtain ⟨h, cs, chs, n, rfl, hq, o, h0, h1, k⟩ := h
  obtain ⟨dx, e, c, b, d, es, ts, hh, he, hE, hc, hC, hb, hd⟩ := id hq
  obtain ⟨v, hv1, hv2⟩ := drop_at o h0 h1
  refine ⟨_, (pss_cons (ps_if (pt_not (pt_val (pcall C1 hr (pa_cons (pv 0) (pa_cons (pv 1) pa_nil))))) (pss_one ps_never) pss_nil)
        (pss_one (ps_ret (pe_ix ix_list (pe_fld (pv 0) rfl) (pv 1) (fun _ _ => rfl))))), ?_⟩
  refine ⟨_, rfl, _, rfl, h, cs, chs, n, rfl, hq, o, _, rfl, ?_⟩
  rw [decide_eq_true h0, decide_eq_true h1]
  refine iteF (nxt ⟨_, rfl, h, _, dx, _, _, rfl, hh, cl_History T, na_History__drops T, histFs_drops, _, rfl, d, _, n, v, rfl, rfl, sqL_of hd, ix_int h0 hv1, k v hv2⟩)
/-! what is behind an edition -/
theorem Chs.drop {K : PySem.W.Frag} {H : Hp} : ∀ {as : List Addr} {cs : List Ch} (m : Nat), Chs K H as cs → Chs K H (as.drop m) (cs.drop m)
  | _, _, 0, h => h
  | _, _, _ + 1, .nil => .nil
  | _, _, m + 1, .cons _ t => t.drop m

/-! slices that begin at the front, that end at the end -/
theorem cutV_to {xs : List V} {m : Nat} (h : m ≤ xs.length) : cutV xs none (some (m : Nat)) = xs.take m := by
  have e : HT.sIx xs.length xs.length (some ((m : Nat) : Int)) = m := by
    unfold HT.sIx
    simp
    split <;> omega
  unfold cutV
  rw [e]
  have e2 : HT.sIx xs.length 0 none = 0 := rfl
  rw [e2]
  rfl
theorem cutV_from {xs : List V} {m : Nat} (h : m ≤ xs.length) : cutV xs (some (m : Nat)) none = xs.drop m := by
  have e : HT.sIx xs.length 0 (some ((m : Nat) : Int)) = m := by
    unfold HT.sIx
    simp
    split <;> omega
  unfold cutV
  rw [e]
  have e2 : HT.sIx xs.length xs.length none = xs.length := rfl
  rw [e2]
  exact List.take_of_length_le (by rw [List.length_drop]; exact Nat.le_refl _)

/-! history.behind(edition) -/
def sp_Hist_behind (K : PySem.W.Frag) : Sp := fun vs H Q _ => ∃ (h : Addr) (cs : List Col) (chs : List Ch) (m : Nat), vs = [.ref h, .int (m : Nat)] ∧ HistAt K H h cs chs ∧ chs.length ≤ 1000 ∧ m ≤ chs.length ∧
  ∀ (l : Addr) (ts : List Addr) (H' : Hp), H l = none → Same H H' → H' l = some (.lst (ts.map V.ref)) → Chs K H' ts (chs.drop m) → Q (.ref l) H'
theorem ok_Hist_behind (T : Tx K mg) : ∃ fd, FnOk P w K mg base CX0 4 (He.ma K (He.ga K "History") "behind") fd ["self", "edition"] (sp_Hist_behind K) ∧ Binds K fd ["self", "edition"] [] := by
  have C1 := ok_is_edition (P := P) (w := w) (base := base) T
  refine mkMeth (fd_History_behind T) sc_History_behind (fun _ _ _ _ _ _ us hl => match us, hl with | [_, _], _ => rfl) (fun vs H Q E h => ?_) (fun cdv A outer s H vs Q E hr h => ?_)
  · obtain ⟨h, cs, chs, m, rfl, _⟩ := h
    rfl
  obtain ⟨h, cs, chs, m, rfl, hq, few, hm, k⟩ := h
  obtain ⟨dx, e, c, b, d, es, ts, hh, he, hE, hc, hC, hb, hd⟩ := id hq
  refine ⟨_, (pss_cons (ps_if (pt_not (pt_val (pcall C1 hr (pa_cons (pv 0) (pa_cons (pv 1) pa_nil))))) (pss_one ps_never) pss_nil)
        (pss_one (ps_ret (pe_slice sl_list (pe_fld (pv 0) rfl) (po_some (pv 1)) po_none)))), ?_⟩
  refine ⟨_, rfl, _, rfl, h, cs, chs, _, _, rfl, hq, few, .base (.int _), _, rfl, ?_⟩
  rw [isEd_nat' hm]
  refine iteF (nxt ⟨_, rfl, h, _, dx, _, _, rfl, hh, cl_History T, na_History__changes T, histFs_changes, _, rfl, _, rfl, c, _, rfl, sqL_of hc, fun l nl => ?_⟩)
  have hl := hC.len
  rw [cutV_from (by rw [List.length_map]; omega), ← List.map_drop]
  exact k l (ts.drop m) _ nl (same_new nl) upd_same ((hC.drop m).keep (same_new nl))
/-! changed_row -/
def sp_changed_row (K : PySem.W.Frag) : Sp := fun vs H Q _ => ∃ (l t d : Addr) (as : List Addr) (cs : List Col) (ch : Ch) (kvs : List (Key × V)), vs = [.ref l, .ref t, .ref d] ∧ H l = some (.lst (as.map V.ref)) ∧ Cols K H as cs ∧ ChAt K H t ch ∧ H d = some (.dK kvs) ∧ RowD cs kvs ∧ (cs.map (·.name)).Nodup ∧ cs.length ≤ 6 ∧ ch.fits = true ∧
  (∀ H', Same H H' → rowThen cs ch kvs = none → Q .non H') ∧ ∀ (d' : Addr) (kvs' : List (Key × V)) (H' : Hp), H d' = none → Same H H' → H' d' = some (.dK kvs') → rowThen cs ch kvs = some kvs' → Q (.ref d') H'
theorem ok_changed_row (T : Tx K mg) : Callee P w K mg base CX0 5 "changed_row" ["columns", "change", "row"] [] (sp_changed_row K) := by
  have Ck := (ok_kind_of (P := P) (w := w) (base := base) T).up (show 1 ≤ 4 by decide)
  have Cv := (ok_changed_value (P := P) (w := w) (base := base) T).up (show 2 ≤ 4 by decide)
  have Cm := (ok_is_missing (P := P) (w := w) (base := base) T).up (show 2 ≤ 4 by decide)
  refine mkCallee (fd_changed_row T) (mg_changed_row T) sc_changed_row (fun _ _ _ _ _ _ us hl => match us, hl with | [_, _, _], _ => rfl) (fun vs H Q E h => ?_) (fun cdv A outer s H vs Q E hr h => ?_)
  · obtain ⟨l, t, d, as, cs, ch, kvs, rfl, _⟩ := h
    rfl
  · obtain ⟨l, t, d, as, cs, ch, kvs, rfl, hl, hc, ht, hd, hrow, hnd, h6, hf, kn, ky⟩ := h
    have nd := sc_changed_row.nd
    have hu := hu_of hr
    have cl := cl_Column T
    refine ⟨_, pss_cons (ps_set (i := 3) nd rfl (Or.inl rfl) (pcall Ck hr (pa_cons (pv 1) pa_nil)))
      (pss_cons (ps_set (i := 4) nd rfl (Or.inl rfl) pe_dnewK)
      (pss_cons (ps_for PassesOwn.never rfl (pi_list (pv 0)) (pg_name (i := 5) nd rfl (Or.inl rfl))
        (pss_cons (ps_set (i := 6) nd rfl (Or.inl rfl) (pcall Cv hr (pa_cons (pv 5) (pa_cons (pv 1) (pa_cons (pe_dget hu (pv 2) (pe_fld (pv 5) rfl) (fun _ _ => rfl)) pa_nil)))))
        (pss_cons (ps_if (pt_val (pcall Cm hr (pa_cons (pv 6) pa_nil))) (pss_one (ps_ret pe_non)) pss_nil)
        (pss_one (ps_if (PW.pt (pw_or (pt_cmpR op_ne (pe_fld (pv 5) rfl) (pe_ix ix_tup (pv 1) pe_int (fun _ _ => rfl)) (nomark _)) (pw_or1 (pt_cmpR op_notIn_seq (pv 3) (pe_tup (pa_cons pe_str (pa_cons pe_str pa_nil))) (by rfl))))) (pss_one (ps_dput hu (pv 4) (pe_fld (pv 5) rfl) (pv 6) rfl))
          (pss_one (ps_if (pt_cmpR op_eq (pv 3) pe_str (nomark _)) (pss_one (ps_dput hu (pv 4) (pe_ix ix_tup (pv 1) pe_int (fun _ _ => rfl)) (pv 6) rfl)) pss_nil)))))))
      (pss_cons (ps_if (pt_cmpR op_eq (pv 3) pe_str (nomark _)) (pss_one (ps_dput hu (pv 4) (pe_ix ix_tup (pv 1) pe_int (fun _ _ => rfl)) (pe_ix ix_tup (pv 1) pe_int (fun _ _ => rfl)) rfl)) pss_nil)
      (pss_one (ps_ret (pv 4)))))), ?_⟩
    refine q_asgX ⟨_, rfl, t, ch, rfl, ht, ?_⟩
    refine q_asgX fun q nq => ?_
    have nql : q ≠ l := npool0 hl nq
    have nqd : q ≠ d := npool0 hd nq
    refine ⟨_, rfl, l, rfl, ⟨_, sqL_of (same_new nq _ _ hl)⟩, ?_⟩
    refine for_list (xs := as.map V.ref) (fun i σ H' => ∃ (acc : List (Key × V)) (x5 x6 : Option V), σ = [some (.ref l), some (.ref t), some (.ref d), some (.str ch.kind), some (.ref q), x5, x6] ∧ But q H H' ∧ H' q = some (.dK acc) ∧ acc.length ≤ i ∧
      rowGo ch cs (kvs.map (·.2)) [] = rowGo ch (cs.drop i) ((kvs.map (·.2)).drop i) acc) ⟨[], none, none, rfl, But.of (same_new nq), upd_same, Nat.le_refl _, rfl⟩ (fun i σ H' _ h => ?_) ?_ ?_
    · obtain ⟨_, _, _, _, b, _⟩ := h
      exact sqL_of (b _ _ nql.symm hl)
    · rintro i x σ H' hx ⟨acc, x5, x6, rfl, b, hq, hlen, hgo⟩
      rw [List.getElem?_map] at hx
      cases ha : as[i]? with
      | none =>
        rw [ha] at hx
        cases hx
      | some a =>
        rw [ha] at hx
        obtain rfl := Option.some.inj hx
        have s' : Same H H' := But.same b (Same.refl _) nq
        obtain ⟨c, hci, dx, hat0⟩ := hc.at_ ha
        have hat := s' _ _ hat0
        obtain ⟨v, hv1, hv2⟩ := hrow.2 i c hci
        have hvi : (kvs.map (·.2))[i]? = some v := by rw [List.getElem?_map, hv1]; rfl
        have hvo : valOk v = true := by
          cases v with
          | non => rfl
          | int _ => rfl
          | _ => cases hv2
        have hg : DGet H' d (.str c.name) (some v) := by
          rw [← valV_at (by rw [hrow.keys]; exact nodup_inr hnd) hv1]
          exact DGet.k (k := Sum.inr c.name) (s' _ _ hd)
        have ht' := ht.keep s'
        rw [go_at hci hvi] at hgo
        obtain ⟨ty, hty⟩ := ty_chg (K := K) (n := c.name) (ch := ch) hvo
        refine q_asgX ⟨_, rfl, _, rfl, _, rfl, _, rfl, a, _, dx, _, _, rfl, hat, cl, na_Column_name T, colFs_name, d, v, rfl, hg, a, t, c.name, c.top, c.num, c.dflt, v, ch, rfl, ⟨dx, hat⟩, ht', hvo, ?_⟩
        generalize chgV c.name ch v = w at hgo hty
        refine ⟨_, rfl, w, ty, rfl, hty _, fun _ _ => hty _, fun H2 s2 => ⟨_, rfl, ?_⟩⟩
        have sH2 := s'.trans s2
        cases hm : isMis w with
        | true =>
          rw [hm, if_pos rfl] at hgo
          exact iteT (kn H2 sH2 (by unfold rowThen; rw [hgo]; rfl))
        | false =>
          rw [hm, if_neg (by decide)] at hgo
          have hat2 := s2 _ _ hat
          have ht2 := ht'.keep s2
          have hq2 := s2 _ _ hq
          have b2 := b.trans (But.of s2)
          have hcn : cs.length ≤ 6 := h6
          have hil : i < cs.length := (List.getElem?_eq_some_iff.mp hci).1
          have hsz : acc.length < sizeLine := by
            have e : sizeLine = 16777216 := by decide
            omega
          have fin : ∀ (acc' : List (Key × V)) (H3 : Hp) (x5 x6 : Option V), stepR ch c w acc = acc' → But q H H3 → H3 q = some (.dK acc') → ∃ (acc : List (Key × V)) (y5 y6 : Option V), ([some (V.ref l), some (.ref t), some (.ref d), some (.str ch.kind), some (.ref q), x5, x6] : L2.St) = [some (.ref l), some (.ref t), some (.ref d), some (.str ch.kind), some (.ref q), y5, y6] ∧ But q H H3 ∧ H3 q = some (.dK acc) ∧ acc.length ≤ i + 1 ∧
              rowGo ch cs (kvs.map (·.2)) [] = rowGo ch (cs.drop (i + 1)) ((kvs.map (·.2)).drop (i + 1)) acc := fun acc' H3 x5 x6 e b3 hq3 => by
            refine ⟨acc', x5, x6, rfl, b3, hq3, ?_, by rw [← e]; exact hgo⟩
            have := step_len ch c w acc
            rw [e] at this
            omega
          refine iteF (nxt ⟨_, rfl, a, _, dx, _, _, rfl, hat2, cl, na_Column_name T, colFs_name, _, rfl, t, _, 1, _, rfl, rfl, ht2, ch.at1, rfl, _, rfl, ?_⟩)
          have putOk : ∀ (k : Str) (H3 : Hp), Same H2 H3 → stepR ch c w acc = putK acc (Sum.inr k) w → But q H (upd H3 q (.dK (putK acc (Sum.inr k) w))) ∧ DPut H3 q (.str k) w (upd H3 q (.dK (putK acc (Sum.inr k) w))) := fun k H3 s3 _ => ⟨(b2.trans (But.of s3)).trans But.mut, DPut.k (k := Sum.inr k) (s3 _ _ hq2) hsz⟩
          by_cases hn : c.name = ch.name
          · rw [decide_eq_true (show V.str c.name = V.str ch.name by rw [hn])]
            refine iteF ⟨_, rfl, by show 2 ≤ sizeLine; decide, fun u nu => ⟨u, _, rfl, .inr (sqT_of upd_same), rfl, rfl, _, rfl, ?_⟩⟩
            have s3 := same_new (o := .tup [V.str "drop", .str "rename"]) nu
            have hat3 := s3 _ _ hat2
            have ht3 := ht2.keep s3
            have bq := b2.trans (But.of s3)
            have keep : ∀ e : stepR ch c w acc = putK acc (Sum.inr c.name) w, _ := fun e => putOk c.name _ s3 e
            cases ch with
            | drop n => exact iteF ⟨_, rfl, rfl, _, rfl, iteD (nes (show ("drop" : Str) ≠ "rename" by decide +kernel)) (nxt (fin acc _ _ _ (if_pos hn) bq (s3 _ _ hq2)))⟩
            | rename n m =>
              have e : stepR (.rename n m) c w acc = putK acc (Sum.inr m) w := if_pos hn
              obtain ⟨b3, p3⟩ := putOk m _ s3 e
              exact iteF ⟨_, rfl, rfl, _, rfl, iteDT rfl ⟨_, rfl, _, rfl, _, rfl, t, _, 2, _, rfl, rfl, ht3, rfl, q, _, rfl, p3, fin _ _ _ _ e b3 upd_same⟩⟩
            | add n g dv =>
              obtain ⟨b3, p3⟩ := keep rfl
              exact iteT ⟨_, rfl, _, rfl, _, rfl, a, _, dx, _, _, rfl, hat3, cl, na_Column_name T, colFs_name, q, _, rfl, p3, fin _ _ _ _ rfl b3 upd_same⟩
            | dflt n dv =>
              obtain ⟨b3, p3⟩ := keep rfl
              exact iteT ⟨_, rfl, _, rfl, _, rfl, a, _, dx, _, _, rfl, hat3, cl, na_Column_name T, colFs_name, q, _, rfl, p3, fin _ _ _ _ rfl b3 upd_same⟩
            | great n g way =>
              obtain ⟨b3, p3⟩ := keep rfl
              exact iteT ⟨_, rfl, _, rfl, _, rfl, a, _, dx, _, _, rfl, hat3, cl, na_Column_name T, colFs_name, q, _, rfl, p3, fin _ _ _ _ rfl b3 upd_same⟩
            | fill n j =>
              obtain ⟨b3, p3⟩ := keep rfl
              exact iteT ⟨_, rfl, _, rfl, _, rfl, a, _, dx, _, _, rfl, hat3, cl, na_Column_name T, colFs_name, q, _, rfl, p3, fin _ _ _ _ rfl b3 upd_same⟩
          · rw [decide_eq_false (fun z => hn (V.str.inj z))]
            have e : stepR ch c w acc = putK acc (Sum.inr c.name) w := by
              cases ch with
              | drop n => exact if_neg hn
              | rename n m => exact if_neg hn
              | _ => rfl
            obtain ⟨b3, p3⟩ := putOk c.name H2 (Same.refl _) e
            refine iteT (iteT ⟨_, rfl, _, rfl, _, rfl, a, _, dx, _, _, rfl, hat2, cl, na_Column_name T, colFs_name, q, _, rfl, p3, ?_⟩)
            exact fin _ _ _ _ e b3 upd_same
    · rintro σ H' ⟨acc, x5, x6, rfl, b, hq, hlen, hgo⟩
      have s' : Same H H' := But.same b (Same.refl _) nq
      have ht' := ht.keep s'
      rw [List.length_map, List.drop_of_length_le (by rw [hc.len]; exact Nat.le_refl _)] at hgo
      have hgo2 : rowGo ch cs (kvs.map (·.2)) [] = some acc := by rw [hgo]; rfl
      have hlen2 : acc.length ≤ 6 := by
        have : as.length = cs.length := hc.len
        rw [List.length_map] at hlen
        omega
      have hz6 : acc.length < sizeLine := by
        have e : sizeLine = 16777216 := by decide
        omega
      refine ⟨_, rfl, rfl, _, rfl, ?_⟩
      by_cases hk : ch.kind = "add"
      · cases ch with
        | add n g dv =>
          refine iteDT rfl ⟨_, rfl, t, _, 3, _, rfl, rfl, ht', rfl, _, rfl, _, rfl, t, _, 1, _, rfl, rfl, ht', rfl, q, _, rfl, DPut.k (k := Sum.inr n) hq hz6, ?_⟩
          refine ⟨_, rfl, ky q _ _ nq (But.same (b.trans But.mut) (Same.refl _) nq) upd_same ?_⟩
          unfold rowThen
          rw [hgo2]
          rfl
        | drop _ => exact absurd (show ("drop" : Str) = "add" from hk) (by decide +kernel)
        | rename _ _ => exact absurd (show ("rename" : Str) = "add" from hk) (by decide +kernel)
        | dflt _ _ => exact absurd (show ("default" : Str) = "add" from hk) (by decide +kernel)
        | great _ _ _ => exact absurd (show ("greatest" : Str) = "add" from hk) (by decide +kernel)
        | fill _ _ => exact absurd (show ("fill" : Str) = "add" from hk) (by decide +kernel)
      · refine iteD (nes hk) (nxt ⟨_, rfl, ky q acc H' nq s' hq ?_⟩)
        unfold rowThen
        rw [hgo2]
        cases ch with
        | add _ _ _ => exact absurd rfl hk
        | _ => rfl
/-! is_entry, of any value -/
def entB (c : Col) : V → V → Bool
  | .int i, v => decide (i = c.num) && isIn c.top v
  | _, _ => false
/-- what is known of a value that may be an entry, and the answer about it -/
inductive EntV (K : PySem.W.Frag) (H : Hp) (c : Col) : V → Bool → Prop
  | no {x : V} {t : String} (ty : TyX K H x (.type t)) (h : t ≠ "tuple") (hk : kitB t "tuple" = some false) : EntV K H c x false
  | len {p : Addr} {xs : List V} (h : SqT K H p xs) (hl : xs.length ≠ 2) : EntV K H c (.ref p) false
  | two {p : Addr} {u v : V} {t t' : String} (h : SqT K H p [u, v]) (tu : TyX K H u (.type t)) (tv : TyX K H v (.type t')) : EntV K H c (.ref p) (entB c u v)
def sp_is_entry (K : PySem.W.Frag) : Sp := fun vs H Q _ => ∃ (a : Addr) (c : Col) (x : V) (b : Bool), vs = [.ref a, x] ∧ ColA K H a c ∧ EntV K H c x b ∧ Q (.bl b) H
theorem ok_is_entry (T : Tx K mg) : Callee P w K mg base CX0 5 "is_entry" ["column", "value"] [] (sp_is_entry K) := by
  have C1 := (ok_is_whole (P := P) (w := w) (base := base) T).up (show 1 ≤ 4 by decide)
  obtain ⟨fdC, FC, bC⟩ := ok_contains (P := P) (w := w) (base := base) T
  have cl := cl_Column T
  refine mkCallee (fd_is_entry T) (mg_is_entry T) sc_is_entry (fun _ _ _ _ _ _ us hl => match us, hl with | [_, _], _ => rfl) (fun vs H Q E h => ?_) (fun cdv A outer s H vs Q E hr h => ?_)
  · obtain ⟨a, c, x, b, rfl, _⟩ := h
    rfl
  · obtain ⟨a, c, x, b, rfl, ⟨dx, hat⟩, ev, k⟩ := h
    refine ⟨_, pss_cons (ps_if (PW.pt (pw_or (pt_not (pt_val (pe_callB call_isi (by rfl) (fr_isinstance T) (by decide +kernel) (pa_cons (pv 1) (pa_cons (pe_bltn (v := .ty "tuple") (by rfl) (fr_tuple T) (by decide +kernel) rfl) pa_nil)))))
        (pw_or1 (pt_cmpR op_ne (pe_callB call_len (by rfl) (fr_len T) PySem.boot_len (pa_cons (pv 1) pa_nil)) pe_int (nomark _))))) (pss_one (ps_ret pe_bl)) pss_nil)
      (pss_one (ps_ret (pe_and (pcall C1 hr (pa_cons (pe_ix ix_tup (pv 1) pe_int (fun _ _ => rfl)) pa_nil))
        (pe_and (pe_cmpR op_eq (pe_ix ix_tup (pv 1) pe_int (fun _ _ => rfl)) (pe_fld (pv 0) rfl) (nomark _)) (pe_one (pe_cmpR (op_inOwn FC (me_Column___contains__ T) hr bC pass0) (pe_ix ix_tup (pv 1) pe_int (fun _ _ => rfl)) (pv 0) (by rfl))))))), ?_⟩
    cases ev with
    | no ty h hk => exact ⟨_, rfl, x, .ty "tuple", _, _, false, rfl, .ty "tuple", ty, kit_ty hk, _, rfl, iteT k⟩
    | @len p xs h hl =>
      refine ⟨_, rfl, .ref p, .ty "tuple", _, _, true, rfl, .ty "tuple", sqT_tup h, kit_ty (by decide +kernel), _, rfl, iteF ⟨_, rfl, _, xs.length, rfl, .inr ⟨_, h, rfl⟩, rfl, _, rfl, ?_⟩⟩
      rw [decide_eq_false (fun z => hl (by have := V.int.inj z; omega))]
      exact iteT k
    | @two p u v t t' h tu tv =>
      refine ⟨_, rfl, .ref p, .ty "tuple", _, _, true, rfl, .ty "tuple", sqT_tup h, kit_ty (by decide +kernel), _, rfl, iteF ⟨_, rfl, _, 2, rfl, .inr ⟨_, h, rfl⟩, rfl, _, rfl, iteF ?_⟩⟩
      have a0 : atI [u, v] 0 = some u := rfl
      have a1 : atI [u, v] 1 = some v := rfl
      refine ⟨_, rfl, p, _, 0, _, rfl, rfl, h, a0, u, t, rfl, tu, _, rfl, ?_⟩
      cases u with
      | int i =>
        refine iteT ⟨_, rfl, p, _, 0, _, rfl, rfl, h, a0, _, rfl, a, _, dx, _, _, rfl, hat, cl, na_Column_number T, colFs_number, rfl, _, rfl, ?_⟩
        by_cases e : i = c.num
        · rw [decide_eq_true (show V.int i = V.int c.num by rw [e])]
          refine iteT ⟨_, rfl, p, _, 1, _, rfl, rfl, h, a1, _, rfl, a, dx, _, rfl, hat, a, c.name, c.top, c.num, c.dflt, v, t', rfl, ⟨dx, hat⟩, tv, _, rfl, ?_⟩
          rw [show entB c (.int i) v = isIn c.top v by show (decide (i = c.num) && _) = _; rw [decide_eq_true e]; rfl] at k
          exact k
        · rw [decide_eq_false (fun z => e (V.int.inj z))]
          rw [show entB c (.int i) v = false by show (decide (i = c.num) && _) = _; rw [decide_eq_false e]; rfl] at k
          exact iteF k
      | _ => exact iteF k
/-! zip of a list and a tuple: the machine's side -/
section
variable {prog : Program} {w : World} {A : Around} {E : Value → Shared → Prop} {s : Shared}
def MSq (t : Bool) (h : Heap) (l : Addr) (xs : Array Value) : Prop := bif t then h.IsTuple l xs else h.IsList l xs
def MIt (t : Bool) (h : Heap) (i l : Addr) (k : Nat) : Prop := bif t then h.IsTupleIter i l k else h.IsListIter i l k
theorem MSq.ext {t : Bool} {h h' : Heap} {l z : Addr} {xs : Array Value} (m : MSq t h l xs) (e : Heap.ExtBut z h h') (n : l ≠ z) : MSq t h' l xs := by
  cases t
  · exact Heap.IsList.extBut (show h.IsList l xs from m) e n
  · exact Heap.IsTuple.extBut (show h.IsTuple l xs from m) e n
theorem MIt.ext {t : Bool} {h h' : Heap} {i l z : Addr} {k : Nat} (m : MIt t h i l k) (e : Heap.ExtBut z h h') (n : i ≠ z) : MIt t h' i l k := by
  cases t
  · exact Heap.IsListIter.extBut (show h.IsListIter i l k from m) e n
  · exact Heap.IsTupleIter.extBut (show h.IsTupleIter i l k from m) e n
theorem MIt.to {t : Bool} {h h' : Heap} {i l : Addr} {k : Nat} (m : MIt t h i l k) (e : ∀ o, h.get? i = some o → h'.get? i = some o) : MIt t h' i l k := by
  cases t
  · exact Heap.IsListIter.at (show h.IsListIter i l k from m) e
  · exact Heap.IsTupleIter.at (show h.IsTupleIter i l k from m) e
theorem MIt.obj {t : Bool} {h : Heap} {i l : Addr} {k : Nat} (m : MIt t h i l k) : ∃ o, h.get? i = some o ∧ ∀ v, o.data ≠ .cell v := by
  cases t
  · obtain ⟨o, e, _, d⟩ := (show h.IsListIter i l k from m)
    exact ⟨o, e, fun v q => by rw [d] at q; cases q⟩
  · obtain ⟨o, e, _, d⟩ := (show h.IsTupleIter i l k from m)
    exact ⟨o, e, fun v q => by rw [d] at q; cases q⟩
theorem zm_one {t : Bool} {i l : Addr} {k : Nat} {xs : Array Value} {x : Value} {Q : Value → Shared → Prop} (m : MIt t s.heap i l k) (q : MSq t s.heap l xs) (hx : xs[k]? = some x)
    (r : ∀ h', MIt t h' i l (k + 1) → Heap.SameBut i s.heap h' → Q x { s with heap := h' }) : wpAny (model prog w) A (Builtin.SmallTypes.nextOf (.ref i)) Q E s := by
  cases t
  · exact wpAny_nextOf_list_item m q hx r
  · exact RZ.nextOf_tuple_item m q hx r
theorem zm_no {t : Bool} {i l : Addr} {k : Nat} {xs : Array Value} {Q : Value → Shared → Prop} (hh : A.handled = none) (m : MIt t s.heap i l k) (q : MSq t s.heap l xs) (hx : xs[k]? = none)
    (r : ∀ h' e, Heap.ExtBut i s.heap h' → (∃ o, h'.get? e = some o ∧ o.cls = .type "StopIteration") → E (.ref e) { s with heap := h' }) : wpAny (model prog w) A (Builtin.SmallTypes.nextOf (.ref i)) Q E s := by
  cases t
  · exact wpAny_nextOf_list_end hh m q hx r
  · exact RZ.nextOf_tuple_end hh m q hx r
/-- a zip that stands free, its two iterators of any of the two kinds -/
structure Zm (t u : Bool) (h : Heap) (zp TI TO i j : Addr) (l m : Addr) (k : Nat) : Prop where
  D : ZipApart zp TI TO i j l m
  z : IsZip h zp TI TO .none
  I : IsPair h TI (.ref i) (.ref j)
  O : ∃ a b, IsPair h TO a b
  i : MIt t h i l k
  j : MIt u h j m k
/-- all but the zip, its pair and its iterators stays -/
def ZKeep (zp TO i j : Addr) (h h' : Heap) : Prop := ∀ c o, c ≠ zp → c ≠ TO → c ≠ i → c ≠ j → h.get? c = some o → h'.get? c = some o
theorem zm_item {t u : Bool} {zp TI TO i j l m : Addr} {k : Nat} {xs ys : Array Value} {x y : Value} {Q : Value → Shared → Prop} (M : Zm t u s.heap zp TI TO i j l m k) (qx : MSq t s.heap l xs) (qy : MSq u s.heap m ys) (hx : xs[k]? = some x) (hy : ys[k]? = some y)
    (r : ∀ h', IsZip h' zp TI TO (rawInt s.heap.objs.size) → IsPair h' TO x y → MIt t h' i l (k + 1) → MIt u h' j m (k + 1) → IsPair h' s.heap.objs.size x y → ZKeep zp TO i j s.heap h' → Q (.ref s.heap.objs.size) { s with heap := h' }) :
    wpAny (model prog w) A (Builtin.«zip.__next__» ⟨[.ref zp], []⟩) (fun fin s' => ∃ v, fin = .done (.ret v) ∧ Q v s') E s := by
  obtain ⟨D, fz, fI, ⟨a, b, fO⟩, fi, fj⟩ := M
  show wpAny _ _ (field (.ref zp) 2 >>= _) _ _ _
  refine wpAny_bind (wpAny_field fz rfl (x := .bool false) rfl ?_)
  show wpAny _ _ (field (.ref zp) 3 >>= _) _ _ _
  refine wpAny_bind (wpAny_field fz rfl (x := .ref TI) rfl (wpAny_bind (wpAny_seqItems fI rfl ?_)))
  show wpAny _ _ (Builtin.SmallTypes.ownedTupleIsFree (.ref zp) >>= _) _ _ _
  refine wpAny_bind ?_
  unfold PySem.Builtin.SmallTypes.ownedTupleIsFree
  refine wpAny_bind (wpAny_field fz rfl (x := .none) rfl (wpAny_pure ?_))
  simp only [if_true]
  refine wpAny_bind (wpAny_rule ?_)
  refine wpAny_bind (wpAny_field fz rfl (x := .ref TO) rfl ?_)
  refine wpAny_bind (wpAny_setField_rec fz (by simp) fun a1 z1 b1 => ?_)
  replace z1 : IsZip a1 zp TI TO .ellipsis := z1
  refine wpAny_bind ?_
  simp only [List.forIn_nil, List.forIn_cons, List.zipIdx_nil, List.zipIdx_cons]
  refine wpAny_bind (wpAny_bind (wpAny_onRaise ?_))
  show wpAny _ _ (Builtin.SmallTypes.nextOf (.ref i) >>= _) _ _ _
  refine wpAny_bind (zm_one (fi.ext b1.extBut D.i1z) (qx.ext b1.extBut D.l1z) hx fun a2 c2 b2 => wpAny_pure ?_)
  have o2 : IsPair a2 TO a b := b2.extBut _ _ D.TOi1 (b1.extBut _ _ D.TOz fO)
  refine wpAny_bind (wpAny_seqItems o2 rfl (wpAny_bind (wpAny_updateSeq_pair o2 fun a3 o3 b3 => ?_)))
  replace o3 : IsPair a3 TO x b := o3
  refine wpAny_bind (wpAny_letGo (wpAny_pure (wpAny_bind (wpAny_bind (wpAny_onRaise ?_)))))
  show wpAny _ _ (Builtin.SmallTypes.nextOf (.ref j) >>= _) _ _ _
  refine wpAny_bind (zm_one (((fj.ext b1.extBut D.i2z).ext b2.extBut D.i12.symm).ext b3.extBut D.TOi2.symm) (((qy.ext b1.extBut D.l2z).ext b2.extBut D.l2i1).ext b3.extBut D.l2TO) hy fun a4 c4 b4 => wpAny_pure ?_)
  have o4 : IsPair a4 TO x b := b4.extBut _ _ D.TOi2 o3
  refine wpAny_bind (wpAny_seqItems o4 rfl (wpAny_bind (wpAny_updateSeq_pair o4 fun a5 o5 b5 => ?_)))
  replace o5 : IsPair a5 TO x y := o5
  refine wpAny_bind (wpAny_letGo (wpAny_pure (wpAny_pure ?_)))
  refine wpAny_bind (wpAny_seqItems o5 rfl (wpAny_bind (wpAny_newTuple ?_)))
  have sz : a5.objs.size = s.heap.objs.size := by rw [b5.1, b4.1, b3.1, b2.1, b1.1]
  have z5 : IsZip a5 zp TI TO .ellipsis := b5.extBut _ _ D.TOz.symm (b4.extBut _ _ D.i2z.symm (b3.extBut _ _ D.TOz.symm (b2.extBut _ _ D.i1z.symm z1)))
  have k5 : ZKeep zp TO i j s.heap a5 := fun c o d1 d2 d3 d4 e => b5.extBut _ _ d2 (b4.extBut _ _ d4 (b3.extBut _ _ d2 (b2.extBut _ _ d3 (b1.extBut _ _ d1 e))))
  have i5 : MIt t a5 i l (k + 1) := ((c2.ext b3.extBut D.TOi1.symm).ext b4.extBut D.i12).ext b5.extBut D.TOi1.symm
  have j5 : MIt u a5 j m (k + 1) := c4.ext b5.extBut D.TOi2.symm
  have zlt : zp < a5.objs.size := Heap.lt_size z5
  show wpAny _ _ (Builtin.SmallTypes.ownedTupleHandOut (.ref zp) (.ref a5.objs.size) >>= _) _ _ _
  refine wpAny_bind ?_
  unfold PySem.Builtin.SmallTypes.ownedTupleHandOut
  have z6 : IsZip (a5.push { cls := .type "tuple", data := .seq #[x, y] }) zp TI TO .ellipsis := Heap.get?_push_of_some _ z5
  refine wpAny_bind (wpAny_setField_rec z6 (by simp) fun a7 z7 b7 => ?_)
  replace z7 : IsZip a7 zp TI TO (rawInt a5.objs.size) := z7
  refine wpAny_setField_rec z7 (by simp) fun a8 z8 b8 => ?_
  replace z8 : IsZip a8 zp TI TO (rawInt a5.objs.size) := z8
  have up : ∀ c o, c ≠ zp → a5.get? c = some o → a8.get? c = some o := fun c o d1 e => b8.extBut _ _ d1 (b7.extBut _ _ d1 (Heap.get?_push_of_some _ e))
  have p8 : IsPair a8 a5.objs.size x y := b8.extBut _ _ (Nat.ne_of_gt zlt) (b7.extBut _ _ (Nat.ne_of_gt zlt) (Heap.get?_push_size _ rfl))
  rw [sz] at z8 p8
  refine wpAny_pure ⟨_, rfl, ?_⟩
  show Q (.ref a5.objs.size) _
  rw [sz]
  exact r a8 z8 (up _ _ D.TOz o5) (i5.to fun o e => up _ o D.i1z e) (j5.to fun o e => up _ o D.i2z e) p8 fun c o d1 d2 d3 d4 e => up c o d1 (k5 c o d1 d2 d3 d4 e)
theorem zm_end {t u : Bool} {zp TI TO i j l m : Addr} {k : Nat} {xs ys : Array Value} {Q : Fin → Shared → Prop} (hh : A.handled = none) (M : Zm t u s.heap zp TI TO i j l m k) (qx : MSq t s.heap l xs) (qy : MSq u s.heap m ys) (he : xs[k]? = none ∨ ys[k]? = none)
    (r : ∀ h' e, ZKeep zp TO i j s.heap h' → (∃ o, h'.get? e = some o ∧ o.cls = .type "StopIteration") → E (.ref e) { s with heap := h' }) : wpAny (model prog w) A (Builtin.«zip.__next__» ⟨[.ref zp], []⟩) Q E s := by
  obtain ⟨D, fz, fI, ⟨a, b, fO⟩, fi, fj⟩ := M
  show wpAny _ _ (field (.ref zp) 2 >>= _) _ _ _
  refine wpAny_bind (wpAny_field fz rfl (x := .bool false) rfl ?_)
  show wpAny _ _ (field (.ref zp) 3 >>= _) _ _ _
  refine wpAny_bind (wpAny_field fz rfl (x := .ref TI) rfl (wpAny_bind (wpAny_seqItems fI rfl ?_)))
  show wpAny _ _ (Builtin.SmallTypes.ownedTupleIsFree (.ref zp) >>= _) _ _ _
  refine wpAny_bind ?_
  unfold PySem.Builtin.SmallTypes.ownedTupleIsFree
  refine wpAny_bind (wpAny_field fz rfl (x := .none) rfl (wpAny_pure ?_))
  simp only [if_true]
  refine wpAny_bind (wpAny_rule ?_)
  refine wpAny_bind (wpAny_field fz rfl (x := .ref TO) rfl ?_)
  refine wpAny_bind (wpAny_setField_rec fz (by simp) fun a1 z1 b1 => ?_)
  replace z1 : IsZip a1 zp TI TO .ellipsis := z1
  refine wpAny_bind ?_
  simp only [List.forIn_nil, List.forIn_cons, List.zipIdx_nil, List.zipIdx_cons]
  refine wpAny_bind (wpAny_bind (wpAny_onRaise ?_))
  show wpAny _ _ (Builtin.SmallTypes.nextOf (.ref i) >>= _) _ _ _
  cases hx : xs[k]? with
  | none =>
    refine wpAny_bind (zm_no hh (fi.ext b1.extBut D.i1z) (qx.ext b1.extBut D.l1z) hx fun a2 e b2 q2 => ?_)
    obtain ⟨oe, ge, ce⟩ := q2
    have z2 : IsZip a2 zp TI TO .ellipsis := b2 _ _ D.i1z.symm z1
    have ne : e ≠ zp := fun q => by subst q; rw [z2] at ge; cases ge; simp at ce
    exact wpAny_setField_rec z2 (by simp) fun a3 _ b3 => r a3 e (fun c o d1 _ d3 _ q => b3.extBut _ _ d1 (b2 _ _ d3 (b1.extBut _ _ d1 q))) ⟨oe, b3.extBut _ _ ne ge, ce⟩
  | some x =>
    have hy : ys[k]? = none := by
      rcases he with q | q
      · rw [hx] at q
        cases q
      · exact q
    refine wpAny_bind (zm_one (fi.ext b1.extBut D.i1z) (qx.ext b1.extBut D.l1z) hx fun a2 c2 b2 => wpAny_pure ?_)
    have o2 : IsPair a2 TO a b := b2.extBut _ _ D.TOi1 (b1.extBut _ _ D.TOz fO)
    refine wpAny_bind (wpAny_seqItems o2 rfl (wpAny_bind (wpAny_updateSeq_pair o2 fun a3 o3 b3 => ?_)))
    refine wpAny_bind (wpAny_letGo (wpAny_pure (wpAny_bind (wpAny_bind (wpAny_onRaise ?_)))))
    show wpAny _ _ (Builtin.SmallTypes.nextOf (.ref j) >>= _) _ _ _
    refine wpAny_bind (zm_no hh (((fj.ext b1.extBut D.i2z).ext b2.extBut D.i12.symm).ext b3.extBut D.TOi2.symm) (((qy.ext b1.extBut D.l2z).ext b2.extBut D.l2i1).ext b3.extBut D.l2TO) hy fun a4 e b4 q4 => ?_)
    obtain ⟨oe, ge, ce⟩ := q4
    have z4 : IsZip a4 zp TI TO .ellipsis := b4 _ _ D.i2z.symm (b3.extBut _ _ D.TOz.symm (b2.extBut _ _ D.i1z.symm z1))
    have ne : e ≠ zp := fun q => by subst q; rw [z4] at ge; cases ge; simp at ce
    exact wpAny_setField_rec z4 (by simp) fun a5 _ b5 => r a5 e (fun c o d1 d2 d3 d4 q => b5.extBut _ _ d1 (b4 _ _ d4 (b3.extBut _ _ d2 (b2.extBut _ _ d3 (b1.extBut _ _ d1 q))))) ⟨oe, b5.extBut _ _ ne ge, ce⟩
theorem zm_nextI {t u : Bool} {zp TI TO i j l m : Addr} {k : Nat} {xs ys : Array Value} {x y : Value} {Q : Option Value → Shared → Prop} (M : Zm t u s.heap zp TI TO i j l m k) (qx : MSq t s.heap l xs) (qy : MSq u s.heap m ys) (hx : xs[k]? = some x) (hy : ys[k]? = some y)
    (r : ∀ h', IsZip h' zp TI TO (rawInt s.heap.objs.size) → IsPair h' TO x y → MIt t h' i l (k + 1) → MIt u h' j m (k + 1) → IsPair h' s.heap.objs.size x y → ZKeep zp TO i j s.heap h' → Q (some (.ref s.heap.objs.size)) { s with heap := h' }) :
    wpAny (model prog w) A (pyNext (.ref zp)) Q E s := by
  have ty : s.TypeIs (.ref zp) "zip" := ⟨_, M.z, rfl⟩
  unfold pyNext
  exact wpAny_bind (wpAny_attempt (wpAny_callSpecial?_slot (name := Str.ofString "__next__") ty F.slot_zip_next (wpAny_call_entry F.slot_zip_next ty F.entry_zip_next (zm_item M qx qy hx hy fun h' r1 r2 r3 r4 r5 r6 => wpAny_pure (r h' r1 r2 r3 r4 r5 r6)) (F.args_zip_next_1 _))))
theorem zm_nextE {t u : Bool} {zp TI TO i j l m : Addr} {k : Nat} {xs ys : Array Value} {Q : Option Value → Shared → Prop} (hh : A.handled = none) (M : Zm t u s.heap zp TI TO i j l m k) (qx : MSq t s.heap l xs) (qy : MSq u s.heap m ys) (he : xs[k]? = none ∨ ys[k]? = none)
    (r : ∀ h', ZKeep zp TO i j s.heap h' → Q none { s with heap := h' }) : wpAny (model prog w) A (pyNext (.ref zp)) Q E s := by
  have ty : s.TypeIs (.ref zp) "zip" := ⟨_, M.z, rfl⟩
  unfold pyNext
  refine wpAny_bind (wpAny_attempt (wpAny_callSpecial?_slot (name := Str.ofString "__next__") ty F.slot_zip_next (wpAny_call_entry F.slot_zip_next ty F.entry_zip_next (zm_end hh M qx qy he fun h' e q1 q2 => ?_) (F.args_zip_next_1 _))))
  obtain ⟨o, go, co⟩ := q2
  exact wpAny_bind (wpAny_isInstance (T := "StopIteration") (b := true) ⟨o, go, co⟩ isSubtype_stop (wpAny_pure (r _ q1)))
/-! the new zip -/
abbrev zmA (h : Heap) (l : Addr) : Heap := h.push { cls := .type "list_iterator", data := .fields #[.ref l, .int 0 0] }
abbrev zmB (h : Heap) (l m : Addr) : Heap := (zmA h l).push { cls := .type "tuple_iterator", data := .fields #[.ref m, .int 0 0] }
abbrev zmC (h : Heap) (l m : Addr) : Heap := (zmB h l m).push { cls := .type "tuple", data := .seq #[.ref h.objs.size, .ref (zmA h l).objs.size] }
abbrev zmD (h : Heap) (l m : Addr) : Heap := (zmC h l m).push { cls := .type "tuple", data := .seq #[.none, .none] }
abbrev zmE (h : Heap) (l m : Addr) : Heap := (zmD h l m).push { cls := .type "zip", data := .fields #[.none, .bool false, .bool false, .ref (zmB h l m).objs.size, .ref (zmC h l m).objs.size] }
theorem zm_meets (l m : Addr) (xs ys : Array Value) : Meets (Builtin.«zip.__new__» ⟨[.type "zip", .ref l, .ref m], []⟩) (fun _ R s => s.heap.IsList l xs ∧ s.heap.IsTuple m ys ∧ R (.ok (.ret (.ref (zmD s.heap l m).objs.size))) { s with heap := zmE s.heap l m }) :=
  .of_wp fun prog w A R s h => by
    obtain ⟨hp, g, d, tk, os⟩ := s; obtain ⟨qx, qy, h⟩ := h
    have hsub := sub_zip
    have wx : Heap.IsList (Shared.heap ⟨hp, g, d, tk, os⟩) l xs := qx
    have wy : Heap.IsTuple (Shared.heap ⟨hp.push { cls := .type "list_iterator", data := .fields #[.ref l, .int 0 0] }, g, d, tk, os⟩) m ys := Heap.IsTuple.push qy _
    wp_walk using wpAny_pyIter_list wx, wpAny_pyIter_tuple wy
    exact ⟨_, rfl, h⟩
theorem zm_call {l m : Addr} {xs ys : Array Value} {Q : Value → Shared → Prop} (qx : s.heap.IsList l xs) (qy : s.heap.IsTuple m ys) (la : l < s.heap.objs.size) (lb : m < s.heap.objs.size)
    (r : ∀ h', Zm false true h' (s.heap.objs.size + 4) (s.heap.objs.size + 2) (s.heap.objs.size + 3) s.heap.objs.size (s.heap.objs.size + 1) l m 0 → (∀ c o, s.heap.get? c = some o → h'.get? c = some o) → Q (.ref (s.heap.objs.size + 4)) { s with heap := h' }) :
    wpAny (model prog w) A (call (.type "zip") [.ref l, .ref m]) Q E s := by
  refine callType_new F.called_zip (by decide) (F.typeCall_zip_2 _ _) (F.newCall_zip_2 _ _) (fun obj => F.args_object_init_3 obj _ _) F.entry_zip_new (zm_meets l m xs ys) ⟨qx, qy, ?_⟩
  have n1 : (zmA s.heap l).objs.size = s.heap.objs.size + 1 := Heap.size_push ..
  have n2 : (zmB s.heap l m).objs.size = s.heap.objs.size + 2 := by rw [Heap.size_push, n1]
  have n3 : (zmC s.heap l m).objs.size = s.heap.objs.size + 3 := by rw [Heap.size_push, n2]
  have n4 : (zmD s.heap l m).objs.size = s.heap.objs.size + 4 := by rw [Heap.size_push, n3]
  have g5 : (zmE s.heap l m).get? (zmD s.heap l m).objs.size = some _ := Heap.get?_push_size _ rfl
  have g4 : (zmE s.heap l m).get? (zmC s.heap l m).objs.size = some _ := Heap.get?_push_of_some _ (Heap.get?_push_size _ rfl)
  have g3 : (zmE s.heap l m).get? (zmB s.heap l m).objs.size = some _ := Heap.get?_push_of_some _ (Heap.get?_push_of_some _ (Heap.get?_push_size _ rfl))
  have g2 : (zmE s.heap l m).get? (zmA s.heap l).objs.size = some _ := Heap.get?_push_of_some _ (Heap.get?_push_of_some _ (Heap.get?_push_of_some _ (Heap.get?_push_size _ rfl)))
  have g1 : (zmE s.heap l m).get? s.heap.objs.size = some _ := Heap.get?_push_of_some _ (Heap.get?_push_of_some _ (Heap.get?_push_of_some _ (Heap.get?_push_of_some _ (Heap.get?_push_size _ rfl))))
  rw [n2, n3, n4] at g5
  rw [n1, n2] at g3
  rw [n3] at g4
  rw [n1] at g2
  show _ ∧ _
  rw [n4]
  exact ⟨⟨_, g5, rfl⟩, r _ ⟨PySem.W.ktu_apart s.heap.objs.size l m la lb, g5, g3, ⟨_, _, g4⟩, ⟨_, g1, rfl, rfl⟩, ⟨_, g2, rfl, rfl⟩⟩ fun c o q => Heap.get?_push_of_some _ (Heap.get?_push_of_some _ (Heap.get?_push_of_some _ (Heap.get?_push_of_some _ (Heap.get?_push_of_some _ q))))⟩
end
/-! the same, as an iterator of the layer -/
section
/-- a list at a, a tuple at b, as they stand at each turn; the items in new pairs -/
def Itm (K : PySem.W.Frag) (a b : Addr) : It :=
  ⟨fun i H => ∃ (xs ys : List V) (x y : V), SqL K H a xs ∧ SqT K H b ys ∧ xs[i]? = some x ∧ ys[i]? = some y,
    fun i H v H' => ∃ (T : Addr) (x y : V), v = .ref T ∧ H T = none ∧ H' = upd H T (.tup [x, y]) ∧ (∀ xs, SqL K H a xs → xs[i]? = some x) ∧ ∀ ys, SqT K H b ys → ys[i]? = some y,
    fun i H => ∃ xs ys : List V, SqL K H a xs ∧ SqT K H b ys ∧ (xs.length ≤ i ∨ ys.length ≤ i)⟩
theorem mem5 {c a1 a2 a3 a4 a5 : Addr} (h : c ∈ [a1, a2, a3, a4, a5]) : c = a1 ∨ c = a2 ∨ c = a3 ∨ c = a4 ∨ c = a5 := by simpa using h
theorem Zm.lt {t u : Bool} {h : Heap} {zp TI TO i j l m : Addr} {k : Nat} (M : Zm t u h zp TI TO i j l m k) : ∀ c ∈ [zp, TI, TO, i, j], c < h.objs.size := fun c hc => by
  obtain ⟨_, _, fO⟩ := M.O
  obtain ⟨_, fi, _⟩ := M.i.obj
  obtain ⟨_, fj, _⟩ := M.j.obj
  rcases mem5 hc with q | q | q | q | q
  · rw [q]; exact Heap.lt_size M.z
  · rw [q]; exact Heap.lt_size M.I
  · rw [q]; exact Heap.lt_size fO
  · rw [q]; exact Heap.lt_size fi
  · rw [q]; exact Heap.lt_size fj
theorem turn_zm {P : Program} {w : World} {K : PySem.W.Frag} {elts : List Expr} {kk : Nat} {tpos : Pos} {a b zp TI TO i1 i2 : Addr} : Turn P w K (.Tuple elts kk tpos) (Itm K a b) [zp, TI, TO, i1, i2] zp (fun n h => Zm false true h zp TI TO i1 i2 a b n) where
  mem := by simp
  obj := fun n h M c hc => by
    obtain ⟨_, _, fO⟩ := M.O
    rcases mem5 hc with q | q | q | q | q
    · rw [q]; exact ⟨_, M.z, fun v q => nomatch q⟩
    · rw [q]; exact ⟨_, M.I, fun v q => nomatch q⟩
    · rw [q]; exact ⟨_, fO, fun v q => nomatch q⟩
    · rw [q]; exact M.i.obj
    · rw [q]; exact M.j.obj
  keep := fun n h h' M k => by
    obtain ⟨x, y, fO⟩ := M.O
    exact ⟨M.D, k zp (by simp) _ M.z, k TI (by simp) _ M.I, ⟨x, y, k TO (by simp) _ fO⟩, M.i.to fun o q => k i1 (by simp) o q, M.j.to fun o q => k i2 (by simp) o q⟩
  item := by
    intro X eP ew eK ec n pins s σ H E I hf M hg
    subst eP ew eK
    obtain ⟨xs, ys, x, y, qx, qy, hx, hy⟩ := hg
    obtain ⟨us, rx, px, _⟩ := I.list qx
    obtain ⟨vs, ry, py, _⟩ := I.tuple qy
    obtain ⟨u, hu, ru⟩ := rx.get hx
    obtain ⟨v, hv, rv⟩ := ry.get hy
    have zlt := M.lt zp (by simp)
    refine zm_nextI M px.isList py (x := u) (y := v) (by simpa using hu) (by simpa using hv) fun h1 z1 o1 r1 r2 p1 k1 => ⟨_, rfl, wpAny_letOwnedTupleGo_zip (s := { s with heap := h1 }) z1 fun h2 z2 b2 => ?_⟩
    have p2 : h2.get? s.heap.objs.size = some { cls := .type "tuple", data := .seq #[u, v] } := (b2.2 _ (Nat.ne_of_gt zlt)).trans p1
    have nw : ObjOk X.prog X.w (upd H s.heap.objs.size (.tup [x, y])) h2 s.heap.objs.size (.tup [x, y]) := ⟨by show 2 ≤ sizeLine; decide, [u, v], .cons ru (.cons rv .nil), ⟨_, p2, rfl, _, rfl⟩⟩
    have I1 : Inv X pins σ (upd H s.heap.objs.size (.tup [x, y])) { s with heap := h2 } :=
      I.turnedNew (t' := s.toks) (ch := [zp, TI, TO, i1, i2]) (fun c o hb q => (b2.2 c (fun e => hb (by simp [e]))).trans (k1 c o (fun e => hb (by simp [e])) (fun e => hb (by simp [e])) (fun e => hb (by simp [e])) (fun e => hb (by simp [e])) q)) hf (Nat.le_refl _) nw
    refine ⟨.ref s.heap.objs.size, _, I1, rfl, ⟨_, x, y, rfl, I.hok.fresh (Nat.le_refl _), rfl, fun l hl => by rw [I.list_inj hl qx]; exact hx, fun l hl => by rw [I.tuple_inj hl qy]; exact hy⟩, ⟨M.D, z2, ?_, ⟨u, v, ?_⟩, ?_, ?_⟩, fun c hc => ?_⟩
    · exact (b2.2 _ M.D.TIz).trans (k1 _ _ M.D.TIz M.D.TITO M.D.TIi1 M.D.TIi2 M.I)
    · exact (b2.2 _ M.D.TOz).trans o1
    · exact r1.to fun o q => (b2.2 _ M.D.i1z).trans q
    · exact r2.to fun o q => (b2.2 _ M.D.i2z).trans q
    · rw [upd_ne (Nat.ne_of_lt (M.lt c hc))]
      exact (hf c hc).1
  done := by
    intro X eP ew eK ec n pins s σ H E I hf M hg
    subst eP ew eK
    obtain ⟨xs, ys, qx, qy, hend⟩ := hg
    obtain ⟨us, rx, px, _⟩ := I.list qx
    obtain ⟨vs, ry, py, _⟩ := I.tuple qy
    have e1 := rx.length
    have e2 := ry.length
    refine zm_nextE (I.ok.hd ec) M px.isList py ?_ fun h1 k1 => ⟨rfl, I.turnedL (t' := s.toks) (ch := [zp, TI, TO, i1, i2]) (fun c o hb q => k1 c o (fun e => hb (by simp [e])) (fun e => hb (by simp [e])) (fun e => hb (by simp [e])) (fun e => hb (by simp [e])) q) hf⟩
    rcases hend with q | q
    · exact .inl (by simp; omega)
    · exact .inr (by simp; omega)
  self := fun A n s Q E M h => wpAny_pyIter_zip M.z h
def iZipM (K : PySem.W.Frag) (ta : TA) : TI := fun σ H R => ta σ H fun vs H1 => ∃ (a b : Addr) (xs ys : List V), vs = [.ref a, .ref b] ∧ SqL K H1 a xs ∧ SqT K H1 b ys ∧ R (Itm K a b) H1
theorem pi_zipM {X : Cx} {e e2 : Expr} {ta : TA} {p pos tpos : Pos} {elts : List Expr} {kk : Nat} (hg : Gl X "zip") (hm : X.mg "zip" = none) (ha : PA X [e, e2] ta)
    (st : starEach [e, e2] X.env = (false, eval e X.env) :: starEach [e2] X.env := by rfl) (pl : (backTo pos (starEach [e2] X.env)).any (·.1) = false := by rfl) : PI X (.Tuple elts kk tpos) (.Call (.Name "zip" p) [e, e2] [] pos) (iZipM X.K ta) := by
  refine ⟨fun pins s σ H R I h => Call_ (ld_blt I hg hm PyProof.Rows.boot_zip (PyProof.Rows.callWith_type1 (thn (ha.run pos pins s σ H _ I h) fun us s1 ⟨vs, H1, I1, r1, q1⟩ => ?_) st pl))⟩
  obtain ⟨a, b, xs, ys, ev, qx, qy, q⟩ := q1
  subst ev
  cases r1 with
  | cons ra rt =>
    cases rt with
    | cons rb rn =>
      cases rn
      cases ra
      cases rb
      obtain ⟨is, rx, px, _⟩ := I1.list qx
      obtain ⟨js, ry, py, _⟩ := I1.tuple qy
      obtain ⟨oy, gy, _⟩ := id py
      refine zm_call px.isList (show s1.heap.IsTuple b js.toArray from py) px.lt (Heap.lt_size gy) fun h' M hk => wpAny_pyIter_zip M.z ?_
      have I2 : Inv X pins σ H1 { s1 with heap := h' } := I1.kept (t' := s1.toks) hk
      have fr : ∀ c, c ∈ [s1.heap.objs.size + 4, s1.heap.objs.size + 2, s1.heap.objs.size + 3, s1.heap.objs.size, s1.heap.objs.size + 1] → FpOk X pins H1 c := fun c hc => by
        have le : s1.heap.objs.size ≤ c := by
          rcases mem5 hc with e | e | e | e | e
          · rw [e]; exact Nat.le_add_right _ _
          · rw [e]; exact Nat.le_add_right _ _
          · rw [e]; exact Nat.le_add_right _ _
          · rw [e]; exact Nat.le_refl _
          · rw [e]; exact Nat.le_add_right _ _
        exact I1.fpOk le (I1.hok.fresh le)
      exact ⟨s1.heap.objs.size + 4, [s1.heap.objs.size + 4, s1.heap.objs.size + 2, s1.heap.objs.size + 3, s1.heap.objs.size, s1.heap.objs.size + 1], _, _, H1, rfl, I2, turn_zm, M, fr, q⟩
theorem walk_zm {K : PySem.W.Frag} {a b : Addr} {xs ys : List V} (hn : xs.length = ys.length) : Walk (Itm K a b) xs.length (fun H => SqL K H a xs ∧ SqT K H b ys) (YPair (fun i => xs[i]?) (fun i => ys[i]?)) := by
  refine ⟨fun i _ hi q => ?_, fun _ q => ⟨xs, ys, q.1, q.2, .inl (Nat.le_refl _)⟩, fun i H v H' _ q y => ?_⟩
  · have hj : i < ys.length := by omega
    exact ⟨xs, ys, xs[i], ys[i], q.1, q.2, by simp [hi], by simp [hj]⟩
  · obtain ⟨T, x, z, e1, e2, e3, e4, e5⟩ := y
    exact ⟨T, x, z, e1, e2, e3, e4 xs q.1, e5 ys q.2⟩
end
section
variable {K : PySem.W.Frag} {σ : L2.St} {H : Hp} {te : TE} {ta : TA} {j1 j2 : Nat} {vs : List Nat} {Q : VK} {xs ys : List V}
/-- [e for x, y in zip(xs, ys)], a list and a tuple of one length -/
theorem tlc_ZM (Rl : Nat → V → Hp → Prop) (mono : ∀ i y H H', KeepNL H H' → Rl i y H → Rl i y H') (hta : ∀ R : List V → Hp → Prop, (∀ a b H1, Same H H1 → SqL K H1 a xs → SqT K H1 b ys → R [.ref a, .ref b] H1) → ta σ H R) (ll : xs.length = ys.length) (hz : xs.length ≤ 100000)
    (hw : ∀ x y, wipe (((wipe σ vs).set j1 (some x)).set j2 (some y)) vs = wipe σ vs)
    (he : ∀ i x y, xs[i]? = some x → ys[i]? = some y → ∀ H', Same H H' → ∀ R : VK, (∀ v H2, Same H' H2 → Rl i v H2 → R v H2) → te (((wipe σ vs).set j1 (some x)).set j2 (some y)) H' R)
    (k : ∀ D us H', H D = none → Same H H' → H' D = some (.lst us) → us.length = xs.length → (∀ i y, us[i]? = some y → Rl i y H') → Q (.ref D) H') : tLc (iZipM K ta) (gTup K 2 (gCons (gName j1) (gCons (gName j2) gNil))) tYes te vs σ H Q := by
  refine hta _ fun a b H1 e1 qa qb => ⟨a, b, xs, ys, rfl, qa, qb, fun D hD => ?_⟩
  refine lc_it (walk_zm ll) (fun i H' => Same H1 H' ∧ ∃ us, H' D = some (.lst us) ∧ us.length = i ∧ ∀ m y, us[m]? = some y → Rl m y H') ⟨same_new hD, [], upd_same, rfl, fun m y h => by simp at h⟩ (fun i H' _ p => ⟨p.1.seq qa, same_tup p.1 qb⟩) ?_ ?_
  · rintro i v H2 H3 hi ⟨s', us, hus, hl, hr⟩ ⟨T, x', y', rfl, nT, rfl, ex, ey⟩
    have ex : xs[i]? = some x' := ex
    have ey : ys[i]? = some y' := ey
    have st : Same H2 (upd H2 T (.tup [x', y'])) := same_new nT
    refine ⟨T, _, rfl, sqT_of upd_same, rfl, _, _, rfl, _, _, rfl, rfl, hw _ _, he i x' y' ex ey _ (e1.trans (s'.trans st)) _ fun y H4 s2 hy => ⟨us, s2 _ _ (st _ _ hus), ?_, same_mut (s'.trans (st.trans s2)) hD, us ++ [y], upd_same, by rw [List.length_append, hl]; rfl, fun m z hm => ?_⟩⟩
    · have e : sizeLine = 16777216 := by decide
      omega
    · have kp : KeepNL H4 (upd H4 D (.lst (us ++ [y]))) := KeepNL.lst (s2 _ _ (st _ _ hus))
      by_cases hm2 : m < us.length
      · rw [List.getElem?_append_left hm2] at hm
        exact mono m z _ _ kp (mono m z _ _ (KeepNL.of (st.trans s2)) (hr m z hm))
      · have hm3 : m = us.length := by
          have h := (List.getElem?_eq_some_iff.mp hm).1
          rw [List.length_append] at h
          have : [y].length = 1 := rfl
          omega
        subst hm3
        rw [List.getElem?_append_right (Nat.le_refl _), Nat.sub_self] at hm
        obtain rfl : y = z := Option.some.inj hm
        rw [hl]
        exact mono i y _ _ kp hy
  · rintro H' ⟨s', us, hus, hl, hr⟩
    exact k D us H' (e1.free hD) (e1.trans s') hus hl hr
end

/-! is_stored, of any value -/
/-- what is known of a value that may be a stored row, and the answer about it -/
inductive StV (K : PySem.W.Frag) (H : Hp) (cs : List Col) (chs : List Ch) : V → Bool → Prop
  | no {x : V} {t : String} (ty : TyX K H x (.type t)) (hk : kitB t "tuple" = some false) : StV K H cs chs x false
  | len {p : Addr} {xs : List V} (h : SqT K H p xs) (hl : xs.length ≠ 2) : StV K H cs chs (.ref p) false
  | ed {p : Addr} {u v : V} {t : String} (h : SqT K H p [u, v]) (tu : TyX K H u (.type t)) (ne : isEd chs.length u = false) : StV K H cs chs (.ref p) false
  | vals {p : Addr} {u v : V} {t t' : String} (h : SqT K H p [u, v]) (tu : TyX K H u (.type t)) (he : isEd chs.length u = true) (tv : TyX K H v (.type t')) (hk : kitB t' "tuple" = some false) : StV K H cs chs (.ref p) false
  | few {p q : Addr} {u : V} {es : List V} {t : String} (h : SqT K H p [u, .ref q]) (tu : TyX K H u (.type t)) (he : isEd chs.length u = true) (hq : SqT K H q es) (ne : es.length ≠ (colsAt cs chs u).length) : StV K H cs chs (.ref p) false
  | all {p q : Addr} {u : V} {es : List V} {t : String} (bs : List Bool) (h : SqT K H p [u, .ref q]) (tu : TyX K H u (.type t)) (he : isEd chs.length u = true) (hq : SqT K H q es) (hl : es.length = (colsAt cs chs u).length) (hb : bs.length = es.length)
      (ev : ∀ (i : Nat) (c : Col) (e : V) (b : Bool), (colsAt cs chs u)[i]? = some c → es[i]? = some e → bs[i]? = some b → ∀ H', Same H H' → EntV K H' c e b) : StV K H cs chs (.ref p) (bs.all id)
def sp_is_stored (K : PySem.W.Frag) : Sp := fun vs H Q _ => ∃ (h : Addr) (cs : List Col) (chs : List Ch) (x : V) (b : Bool), vs = [.ref h, x] ∧ HistAt K H h cs chs ∧ chs.length ≤ 1000 ∧ (∀ u, (colsAt cs chs u).length ≤ 1000) ∧ StV K H cs chs x b ∧ ∀ H', Same H H' → Q (.bl b) H'
theorem ok_is_stored (T : Tx K mg) : Callee P w K mg base CX0 6 "is_stored" ["history", "value"] [] (sp_is_stored K) := by
  have C1 := (ok_is_edition (P := P) (w := w) (base := base) T).up (show 3 ≤ 5 by decide)
  have C2 := ok_is_entry (P := P) (w := w) (base := base) T
  obtain ⟨fdC, FC, bC, _⟩ := ok_Hist_columns (P := P) (w := w) (base := base) T
  have cl := cl_History T
  refine mkCallee (fd_is_stored T) (mg_is_stored T) sc_is_stored (fun _ _ _ _ _ _ us hl => match us, hl with | [_, _], _ => rfl) (fun vs H Q E h => ?_) (fun cdv A outer s H vs Q E hr h => ?_)
  · obtain ⟨h, cs, chs, x, b, rfl, _⟩ := h
    rfl
  · obtain ⟨h, cs, chs, x, b, rfl, hh, few, fewc, sv, k⟩ := h
    have nd := sc_is_stored.nd
    refine ⟨_, pss_cons (ps_if (PW.pt (pw_or (pt_not (pt_val (pe_callB call_isi (by rfl) (fr_isinstance T) (by decide +kernel) (pa_cons (pv 1) (pa_cons (pe_bltn (v := .ty "tuple") (by rfl) (fr_tuple T) (by decide +kernel) rfl) pa_nil)))))
        (pw_or1 (pt_cmpR op_ne (pe_callB call_len (by rfl) (fr_len T) PySem.boot_len (pa_cons (pv 1) pa_nil)) pe_int (nomark _))))) (pss_one (ps_ret pe_bl)) pss_nil)
      (pss_cons (ps_asg (pv 1) (pg_tup rfl (pgs_cons (pg_name (i := 2) nd rfl (Or.inl rfl)) (pgs_cons (pg_name (i := 3) nd rfl (Or.inl rfl)) pgs_nil))))
      (pss_cons (ps_if (PW.pt (pw_or (pt_not (pt_val (pcall C1 hr (pa_cons (pv 0) (pa_cons (pv 2) pa_nil)))))
        (pw_or1 (pt_not (pt_val (pe_callB call_isi (by rfl) (fr_isinstance T) (by decide +kernel) (pa_cons (pv 3) (pa_cons (pe_bltn (v := .ty "tuple") (by rfl) (fr_tuple T) (by decide +kernel) rfl) pa_nil)))))))) (pss_one (ps_ret pe_bl)) pss_nil)
      (pss_cons (ps_set (i := 4) nd rfl (Or.inl rfl) (pe_meth (pv 0) cl (me_History_columns T) FC hr bC .nil pass0 (pa_cons (pv 2) pa_nil)))
      (pss_cons (ps_if (pt_cmpR op_ne (pe_callB call_len (by rfl) (fr_len T) PySem.boot_len (pa_cons (pv 3) pa_nil)) (pe_callB call_len (by rfl) (fr_len T) PySem.boot_len (pa_cons (pv 4) pa_nil)) (nomark _)) (pss_one (ps_ret pe_bl)) pss_nil)
      (pss_one (ps_ret (pe_callB (cr_all rfl) (by rfl) (fr_all T) (by decide +kernel) (pa_cons (pe_lc (own := [("column", 5), ("entry", 6)]) (g := gTup K 2 (gCons (gName 5) (gCons (gName 6) gNil))) (tt := tYes) (te := tCall (sp_is_entry K) [] E0 (tCons (tVar 5) (tCons (tVar 6) tNil))) rfl nd (pi_zipM (by rfl) (fr_zip T) (pa_cons (pv 4) (pa_cons (pv 3) pa_nil))) (blkOk_by (N := ["history", "value", "edition", "values", "columns", "column", "entry"]) (sc := defScope s_is_stored) (by decide +kernel))
          (fun _ _ _ _ _ => pg_tup rfl (pgs_cons (pg_name (i := 5) nd rfl (Or.inl rfl)) (pgs_cons (pg_name (i := 6) nd rfl (Or.inl rfl)) pgs_nil))) (fun _ _ _ _ _ => pts_nil) (fun _ _ _ _ _ => pcall C2 hr (pa_cons (pv 5) (pa_cons (pv 6) pa_nil)))) pa_nil)))))))), ?_⟩
    cases sv with
    | @no x t ty hk => exact ⟨_, rfl, x, .ty "tuple", _, _, false, rfl, .ty "tuple", ty, kit_ty hk, _, rfl, iteT (k H (Same.refl _))⟩
    | @len p xs hp hl =>
      refine ⟨_, rfl, .ref p, .ty "tuple", _, _, true, rfl, .ty "tuple", sqT_tup hp, kit_ty (by decide +kernel), _, rfl, iteF ⟨_, rfl, _, xs.length, rfl, .inr ⟨_, hp, rfl⟩, rfl, _, rfl, ?_⟩⟩
      rw [decide_eq_false (fun z => hl (by have := V.int.inj z; omega))]
      exact iteT (k H (Same.refl _))
    | @ed p u v t hp tu ne =>
      refine ⟨_, rfl, .ref p, .ty "tuple", _, _, true, rfl, .ty "tuple", sqT_tup hp, kit_ty (by decide +kernel), _, rfl, iteF ⟨_, rfl, _, 2, rfl, .inr ⟨_, hp, rfl⟩, rfl, _, rfl, iteF ?_⟩⟩
      refine nxt ⟨_, rfl, p, _, rfl, hp, rfl, _, _, rfl, _, _, rfl, rfl, ?_⟩
      refine ⟨_, rfl, _, rfl, h, cs, chs, u, t, rfl, hh, few, tu, _, rfl, ?_⟩
      rw [ne]
      exact iteT (k H (Same.refl _))
    | @vals p u v t t' hp tu he tv hk =>
      refine ⟨_, rfl, .ref p, .ty "tuple", _, _, true, rfl, .ty "tuple", sqT_tup hp, kit_ty (by decide +kernel), _, rfl, iteF ⟨_, rfl, _, 2, rfl, .inr ⟨_, hp, rfl⟩, rfl, _, rfl, iteF ?_⟩⟩
      refine nxt ⟨_, rfl, p, _, rfl, hp, rfl, _, _, rfl, _, _, rfl, rfl, ?_⟩
      refine ⟨_, rfl, _, rfl, h, cs, chs, u, t, rfl, hh, few, tu, _, rfl, ?_⟩
      rw [he]
      refine iteF ⟨_, rfl, v, .ty "tuple", _, _, false, rfl, .ty "tuple", tv, kit_ty hk, _, rfl, ?_⟩
      exact iteT (k H (Same.refl _))
    | @few p q u es t hp tu he hq ne =>
      refine ⟨_, rfl, .ref p, .ty "tuple", _, _, true, rfl, .ty "tuple", sqT_tup hp, kit_ty (by decide +kernel), _, rfl, iteF ⟨_, rfl, _, 2, rfl, .inr ⟨_, hp, rfl⟩, rfl, _, rfl, iteF ?_⟩⟩
      refine nxt ⟨_, rfl, p, _, rfl, hp, rfl, _, _, rfl, _, _, rfl, rfl, ?_⟩
      refine ⟨_, rfl, _, rfl, h, cs, chs, u, t, rfl, hh, few, tu, _, rfl, ?_⟩
      rw [he]
      refine iteF ⟨_, rfl, .ref q, .ty "tuple", _, _, true, rfl, .ty "tuple", sqT_tup hq, kit_ty (by decide +kernel), _, rfl, iteF (nxt ?_)⟩
      obtain ⟨dx, fs, hi, no⟩ := histM hh
      refine ⟨_, rfl, h, dx, fs, rfl, hi, no, _, rfl, h, cs, chs, u, rfl, hh, few, .inr he, fun l as H1 nl s1 hl1 hc1 => ?_⟩
      refine ⟨_, rfl, _, es.length, rfl, .inr ⟨_, same_tup s1 hq, rfl⟩, _, rfl, _, as.length, rfl, .inl ⟨_, sqL_of hl1, by rw [List.length_map]⟩, rfl, _, rfl, ?_⟩
      rw [decide_eq_false (fun z => ne (by have := V.int.inj z; rw [← hc1.len]; omega))]
      exact iteT (k H1 s1)
    | @all p q u es t bs hp tu he hq hl hb ev =>
      refine ⟨_, rfl, .ref p, .ty "tuple", _, _, true, rfl, .ty "tuple", sqT_tup hp, kit_ty (by decide +kernel), _, rfl, iteF ⟨_, rfl, _, 2, rfl, .inr ⟨_, hp, rfl⟩, rfl, _, rfl, iteF ?_⟩⟩
      refine nxt ⟨_, rfl, p, _, rfl, hp, rfl, _, _, rfl, _, _, rfl, rfl, ?_⟩
      refine ⟨_, rfl, _, rfl, h, cs, chs, u, t, rfl, hh, few, tu, _, rfl, ?_⟩
      rw [he]
      refine iteF ⟨_, rfl, .ref q, .ty "tuple", _, _, true, rfl, .ty "tuple", sqT_tup hq, kit_ty (by decide +kernel), _, rfl, iteF (nxt ?_)⟩
      obtain ⟨dx, fs, hi, no⟩ := histM hh
      refine ⟨_, rfl, h, dx, fs, rfl, hi, no, _, rfl, h, cs, chs, u, rfl, hh, few, .inr he, fun l as H1 nl s1 hl1 hc1 => ?_⟩
      refine ⟨_, rfl, _, es.length, rfl, .inr ⟨_, same_tup s1 hq, rfl⟩, _, rfl, _, as.length, rfl, .inl ⟨_, sqL_of hl1, by rw [List.length_map]⟩, rfl, _, rfl, ?_⟩
      rw [decide_eq_true (by rw [hl, hc1.len])]
      refine iteF (nxt ?_)
      have few1 := fewc u
      dsimp only
      refine pl_r1 ?_
      refine tlc_ZM (K := K) (xs := as.map V.ref) (ys := es) (fun i y _ => ∃ b, bs[i]? = some b ∧ y = .bl b) (fun i y H1 H2 s2 h => h) (fun R r => ⟨_, rfl, _, rfl, r l q H1 (Same.refl _) (sqL_of hl1) (same_tup s1 hq)⟩) (by rw [List.length_map, hl, hc1.len]) (by rw [List.length_map, hc1.len]; omega) (fun _ _ => rfl) ?_ ?_
      · intro i x y hx hy H2 s2 R hR
        rw [List.getElem?_map] at hx
        cases ha : as[i]? with
        | none =>
          rw [ha] at hx
          cases hx
        | some a =>
          rw [ha] at hx
          obtain rfl := Option.some.inj hx
          obtain ⟨c, hci, hat⟩ := hc1.at_ ha
          have hi : i < bs.length := by
            have := (List.getElem?_eq_some_iff.mp hy).1
            omega
          have hbi : bs[i]? = some bs[i] := List.getElem?_eq_getElem hi
          exact ⟨_, rfl, _, rfl, a, c, y, bs[i], rfl, hat.keep s2, ev i c y _ hci hy hbi _ (s1.trans s2), hR _ _ (Same.refl _) ⟨_, hbi, rfl⟩⟩
      · intro D us H2 nD s2 hD hlen hy
        have e : us = bs.map V.bl := by
          refine List.ext_getElem? fun i => ?_
          rw [List.getElem?_map]
          cases eu : us[i]? with
          | none =>
            have l1 := List.getElem?_eq_none_iff.mp eu
            rw [List.length_map] at hlen
            have : bs[i]? = none := List.getElem?_eq_none (by rw [hb, hl, ← hc1.len]; omega)
            rw [this]
            rfl
          | some y =>
            obtain ⟨b, h1, h2⟩ := hy i y eu
            rw [h1, h2]
            rfl
        subst e
        exact ⟨D, bs, rfl, sqL_of hD, k H2 (s1.trans s2)⟩
/-! a dict comprehension over anything that is walked -/
theorem tyY {σ : L2.St} {H : Hp} {f g : Hp → Prop} (h : f H) : tYes σ H (fun b H3 => if b = true then f H3 else g H3) := h
theorem dc_it {J : It} {n : Nat} {G : Hp → Prop} {Y : Nat → Hp → V → Hp → Prop} (w : Walk J n G Y) {g : TG} {tt : TT} {tk tv : TE} {vs : List Nat} {σ : L2.St} {H1 : Hp} {D : Addr} {Qd : Hp → Prop} (Pv : Nat → Hp → Prop) (h0 : Pv 0 (upd H1 D (.dK []))) (hG : ∀ i H, i ≤ n → Pv i H → G H)
    (hs : ∀ i x H H', i < n → Pv i H → Y i H x H' → g x (wipe σ vs) H' fun σ2 H2 => wipe σ2 vs = wipe σ vs ∧ tt σ2 H2 fun b H3 =>
      if b = true then tk σ2 H3 fun y H4 => tv σ2 H4 fun z H5 => ∃ kvs k, y = kV k ∧ H5 D = some (.dK kvs) ∧ kvs.length < sizeLine ∧ Pv (i + 1) (upd H5 D (.dK (putK kvs k z))) else Pv (i + 1) H3) (hd : ∀ H, Pv n H → Qd H) :
    ∃ W : Nat → Nat → Hp → Prop, (∃ m, W 0 m (upd H1 D (.dK []))) ∧ ∀ i m H, W i m H →
      (J.stop i H ∧ Qd H) ∨ (J.go i H ∧ ∃ Nx : Hp → Prop, (∀ H', Nx H' → ∃ m', m' < m ∧ W (i + 1) m' H') ∧ ∀ x H', J.yld i H x H' → g x (wipe σ vs) H' fun σ2 H2 => wipe σ2 vs = wipe σ vs ∧ tt σ2 H2 fun b H3 =>
        if b = true then tk σ2 H3 fun y H4 => tv σ2 H4 fun z H5 => ∃ kvs k, y = kV k ∧ H5 D = some (.dK kvs) ∧ kvs.length < sizeLine ∧ Nx (upd H5 D (.dK (putK kvs k z))) else Nx H3) := by
  refine ⟨fun i m H => m = n - i ∧ i ≤ n ∧ Pv i H, ⟨n, by simp, Nat.zero_le _, h0⟩, ?_⟩
  rintro i m H ⟨rfl, hi, p⟩
  have q := hG i H hi p
  by_cases hlt : i < n
  · exact .inr ⟨w.goes i H hlt q, Pv (i + 1), fun H' p' => ⟨n - (i + 1), by omega, rfl, hlt, p'⟩, fun x H' y => hs i x H H' hlt p (w.yields i H x H' hlt q y)⟩
  · have e : i = n := by omega
    subst e
    exact .inl ⟨w.stops H q, hd H p⟩
section
variable {X : Cx}
/-- name = {..} on one line, the name a local -/
theorem ps_setDc {i : Nat} {y : Str} {py : Pos} {kx vx tg iter : Expr} {ifs : List Expr} {scope : Scope} {own : List (Str × Nat)} {pos spos : Pos} {wi : TI} {g : TG} {tt : TT} {tk tv : TE} (hc : X.calm = true) (hN : X.N.Nodup) (hy : X.N[i]? = some y) (hyl : X.env.scope.names.lookup y = some .local)
    (hsw : swapsWith (.DictComp kx vx [⟨tg, iter, ifs, 0⟩] scope pos) (some (.Name y py)) spos.line X.env = pure true) (hi : PI X tg iter wi) (ok : BlkOk X.N X.env.scope scope own)
    (hg : ∀ (s : Shared) (H : Hp) (C : Addr) (cl : List (Str × Addr)) (fp : List Addr), PG (X.blk s H scope (compEnvC scope cl C X.env) fp) tg g) (ht : ∀ (s : Shared) (H : Hp) (C : Addr) (cl : List (Str × Addr)) (fp : List Addr), PTs (X.blk s H scope (compEnvC scope cl C X.env) fp) ifs tt)
    (hk : ∀ (s : Shared) (H : Hp) (C : Addr) (cl : List (Str × Addr)) (fp : List Addr), PE (X.blk s H scope (compEnvC scope cl C X.env) fp) kx tk)
    (he : ∀ (s : Shared) (H : Hp) (C : Addr) (cl : List (Str × Addr)) (fp : List Addr), PE (X.blk s H scope (compEnvC scope cl C X.env) fp) vx tv) (hs : ∀ x, foldedSetIterable iter X.env x = pure x := by intro _; rfl) :
    PS X (.Assign [.Name y py] (.DictComp kx vx [⟨tg, iter, ifs, 0⟩] scope pos) spos) (tAsg (tDc wi g tt tk tv (own.map (·.2))) (gName i)) := by
  refine ⟨fun pins s σ H D I h => ?_⟩
  rw [exec_Assign_Name_used _ _ _ _ hsw]
  refine wpAny_bind (wpAny_standAt (wpAny_bind ?_))
  show wpAny _ X.A (do let _ ← comprehension (.DictComp kx vx [⟨tg, iter, ifs, 0⟩] scope pos) scope X.env (firstIterPos [⟨tg, iter, ifs, 0⟩] pos) newDict false (eval iter X.env) (some (assign (.Name y py) X.env))) _ _ s
  have h : tDc wi g tt tk tv (own.map (·.2)) σ H (fun x H1 => gName i x σ H1 D.nx) := h
  refine wpAny_bind (thn (dc_core (Qf := fun _ s' => SP X pins D .next s') hc hN I hi ok hg ht hk he hs h fun L C s' m H' I' q hn f => ?_) fun _ s' hq => wpAny_pure (wpAny_pure hq))
  show wpAny _ _ (assign (.Name y py) X.env (.ref L)) _ _ _
  refine wpAny_assign_Name (store_ok2 (v := V.ref L) I' hN hy (.inl hyl) rfl (fun s2 I2 ⟨a, sb, ha⟩ => ?_) (.inr hyl))
  obtain ⟨f0, f1, f2, f3, f4, f5⟩ := f
  have haC : C ≠ a := by
    rcases ha with z | z
    · rw [z]; exact f1
    · exact fun e => f4 y a z e.symm
  refine ⟨m, hn.sameBut sb haC, fun h3 sb3 => ?_⟩
  exact ⟨_, H', I2.turned (t' := s2.toks) (fun b o hb e => (sb3.2 b hb).trans e) f0 f1 f3 f4 f5, q⟩
theorem sw_trueD {kx vx : Expr} {gs : List Comprehension} {scope : Scope} {pos py : Pos} {y : Str} {l : Nat} {env : Env} (hk : env.scope.kind = .function) (hy : env.scope.names.lookup y = some .local) (hl : (py.line == pos.line) = true)
    (ha : (scope.names.any fun (n, k) => n == y && (k == .local || k == .cell)) = false) : swapsWith (.DictComp kx vx gs scope pos) (some (.Name y py)) l env = pure true := by
  have ky : env.kindOf y = some .local := hy
  have hb : env.blockKind = .function := by unfold Env.blockKind; rw [hk]; rfl
  unfold swapsWith
  simp only [hb, ky, ha, Expr.pos, hl]
  rfl
end

/-! trail -/
def sp_trail (K : PySem.W.Frag) : Sp := fun vs H Q _ => ∃ (h r : Addr) (cs : List Col) (chs : List Ch) (i e : Nat) (es : List (Int × V)), vs = [.ref h, .ref r, .int (e : Nat)] ∧ HistAt K H h cs chs ∧ HistOk cs chs ∧ i ≤ e ∧ e ≤ chs.length ∧ StAt K H r (i : Nat) es ∧ FitE (atC cs (chs.take i)).1 es ∧
  ∀ (l : Addr) (ds : List Addr) (H' : Hp), H l = none → Same H H' → H' l = some (.lst (ds.map V.ref)) → Fol cs chs i (rowE (atC cs (chs.take i)).1 es) H' ds → 1 ≤ ds.length → ds.length ≤ e - i + 1 → (ds.length = e - i + 1 ∨ folTo cs chs i (rowE (atC cs (chs.take i)).1 es) ds.length = none) → Q (.ref l) H'
theorem ok_trail (T : Tx K mg) : Callee P w K mg base CX0 6 "trail" ["history", "row", "edition"] [] (sp_trail K) := by
  obtain ⟨fdC, FC, bC, _⟩ := ok_Hist_columns (P := P) (w := w) (base := base) T
  obtain ⟨fdG, FG, bG⟩ := ok_Hist_get (P := P) (w := w) (base := base) T
  have Cr := ok_changed_row (P := P) (w := w) (base := base) T
  have cl := cl_History T
  have clc := cl_Column T
  refine mkCallee (fd_trail T) (mg_trail T) sc_trail (fun _ _ _ _ _ _ us hl => match us, hl with | [_, _, _], _ => rfl) (fun vs H Q E h => ?_) (fun cdv A outer s H vs Q E hr h => ?_)
  · obtain ⟨h, r, cs, chs, i, e, es, rfl, _⟩ := h
    rfl
  · obtain ⟨h, r, cs, chs, i, e, es, rfl, hh, hO, hie, hel, hst, hfit, k⟩ := h
    have nd := sc_trail.nd
    have hrG : Room 3 _ := hr.mono (by decide)
    refine ⟨_, pss_cons (ps_set (i := 3) nd rfl (Or.inl rfl) (pe_meth (pv 0) cl (me_History_columns T) FC hr bC .nil pass0 (pa_cons (pe_ix ix_tup (pv 1) pe_int (fun _ _ => rfl)) pa_nil)))
      (pss_cons (ps_setDc (i := 4) (own := [("column", 7), ("entry", 8)]) (g := gTup K 2 (gCons (gName 7) (gCons (gName 8) gNil))) (tt := tYes) (tk := tFld K (tVar 7) "name") (tv := tOp (rIxT K) (tVar 8) (tC (.int 1))) rfl nd rfl rfl (sw_trueD rfl rfl rfl (by decide +kernel)) (pi_zipM (by rfl) (fr_zip T) (pa_cons (pv 3) (pa_cons (pe_ix ix_tup (pv 1) pe_int (fun _ _ => rfl)) pa_nil))) (blkOk_by (N := ["history", "row", "edition", "columns", "kept", "found", "at", "column", "entry"]) (sc := defScope s_trail) (by decide +kernel))
          (fun _ _ _ _ _ => pg_tup rfl (pgs_cons (pg_name (i := 7) nd rfl (Or.inl rfl)) (pgs_cons (pg_name (i := 8) nd rfl (Or.inl rfl)) pgs_nil))) (fun _ _ _ _ _ => pts_nil) (fun _ _ _ _ _ => pe_fld (pv 7) rfl) (fun _ _ _ _ _ => pe_ix ix_tup (pv 8) pe_int (fun _ _ => rfl)))
      (pss_cons (ps_set (i := 5) nd rfl (Or.inl rfl) (pe_lst (pa_cons (pv 4) pa_nil)))
      (pss_cons (ps_for PassesOwn.never rfl (pi_range2 (by rfl) (fr_range T) (pa_cons (pe_ix ix_tup (pv 1) pe_int (fun _ _ => rfl)) (pa_cons (pv 2) pa_nil))) (pg_name (i := 6) nd rfl (Or.inl rfl))
        (pss_cons (ps_set (i := 4) nd rfl (Or.inl rfl) (pcall Cr hr (pa_cons (pe_meth (pv 0) cl (me_History_columns T) FC hr bC .nil pass0 (pa_cons (pv 6) pa_nil)) (pa_cons (pe_ixOwn FG (me_History___getitem__ T) (ex_History_fnx T) hrG bG pass0 (pv 0) (pv 6) (fun _ _ => rfl)) (pa_cons (pv 4) pa_nil)))))
        (pss_cons (ps_if (pt_cmpR op_isN (pv 4) pe_non (nomark _)) (pss_one (ps_ret (pv 5))) pss_nil)
        (pss_one (ps_expr (pe_bm PySem.F.plainAttrs_list PySem.F.slot_list_append PySem.F.type_list_append mt_append (pv 5) (pa_cons (pv 4) pa_nil)))))))
      (pss_one (ps_ret (pv 5)))))), ?_⟩
    have few := hO.few
    have gi := hO.f.good hO.g i (by omega)
    have isE : ∀ j : Nat, j ≤ chs.length → isEd chs.length (.int (j : Nat)) = true := fun j hj => by
      show (decide ((0 : Int) ≤ (j : Nat)) && decide (((j : Nat) : Int) ≤ (chs.length : Nat))) = true
      rw [decide_eq_true (by omega), decide_eq_true (by omega)]
      rfl
    have hcol : ∀ j : Nat, colsAt cs chs (.int (j : Nat)) = (atC cs (chs.take j)).1 := fun j => rfl
    obtain ⟨q, as, h1, h2, he⟩ := id hst
    obtain ⟨dx, fs, hi, no⟩ := histM hh
    refine q_asgX ⟨_, rfl, h, dx, fs, rfl, hi, no, _, rfl, r, _, 0, _, rfl, rfl, h1, rfl, h, cs, chs, .int (i : Nat), rfl, hh, by omega, .inr (isE i (by omega)), fun lc ac H1 nlc s1 hlc hcc => ?_⟩
    rw [hcol] at hcc
    refine q_asgX ?_
    refine ⟨_, rfl, _, rfl, r, _, 1, _, rfl, rfl, same_tup s1 h1, rfl, lc, q, ac.map V.ref, as.map V.ref, rfl, sqL_of hlc, same_tup s1 h2, fun D nD => ?_⟩
    have hlen : ac.length = as.length := by rw [hcc.len, he.len, hfit.1]
    have hrow := rowE_row hfit
    generalize hkv : rowE (atC cs (chs.take i)).1 es = kv0 at k hrow
    refine dc_it (walk_zm (by rw [List.length_map, List.length_map, hlen])) (fun j H' => Same H1 H' ∧ H' D = some (.dK (mergeK [] (kv0.take j)))) ⟨same_new nD, upd_same⟩ (fun j H' _ p => ⟨sqL_of (p.1 _ _ hlc), same_tup p.1 (same_tup s1 h2)⟩) ?_ ?_
    · rintro j v H2 H3 hj ⟨s2, hD⟩ ⟨T1, x', y', rfl, nT, rfl, ex, ey⟩
      have ex : (ac.map V.ref)[j]? = some x' := ex
      have ey : (as.map V.ref)[j]? = some y' := ey
      have hj1 : j < ac.length := by simpa using hj
      rw [List.getElem?_map, List.getElem?_eq_getElem hj1] at ex
      obtain rfl := Option.some.inj ex
      rw [List.getElem?_map, List.getElem?_eq_getElem (show j < as.length by omega)] at ey
      obtain rfl := Option.some.inj ey
      have st : Same H2 (upd H2 T1 (.tup [.ref ac[j], .ref (as[j]'(by omega))])) := same_new nT
      obtain ⟨c, hcj, dxc, hat⟩ := hcc.at_ (List.getElem?_eq_getElem hj1)
      obtain ⟨e', he1, he2⟩ := he.at_ (List.getElem?_eq_getElem (show j < as.length by omega))
      obtain ⟨v, hv1, hv2, _⟩ := rowE_at hfit hcj
      obtain rfl := Option.some.inj (he1.symm.trans hv2)
      rw [hkv] at hv1
      have s12 := s2.trans st
      refine ⟨T1, _, rfl, sqT_of upd_same, rfl, _, _, rfl, _, _, rfl, rfl, rfl, ?_⟩
      refine tyY ?_
      refine ⟨_, rfl, _, _, dxc, _, _, rfl, s12 _ _ hat, clc, na_Column_name T, colFs_name, _, rfl, _, _, 1, _, rfl, rfl, same_tup (s1.trans s12) he2, rfl, _, Sum.inr c.name, rfl, st _ _ hD, ?_, same_mut s12 nD, ?_⟩
      · have e : sizeLine = 16777216 := by decide
        have l1 : (mergeK [] (kv0.take j)).length ≤ j := by
          have : mergeK [] (kv0.take j) = kv0.take j := by
            have nd2 : ((kv0.take j).map (·.1)).Nodup := by
              rw [List.map_take]
              refine List.Nodup.sublist (List.take_sublist _ _) ?_
              rw [hrow.keys]
              exact nodup_inr gi.names
            have := merge_new (kv0.take j) [] (by rw [List.nil_append]; exact nd2)
            rw [List.nil_append] at this
            exact this
          rw [this, List.length_take]
          omega
        have l2 := gi.six
        have l3 : ac.length = (atC cs (chs.take i)).1.length := hcc.len
        omega
      · rw [upd_same, List.take_add_one, hv1]
        show _ = some (HO.dK (List.foldl _ [] (kv0.take j ++ [(Sum.inr c.name, v)])))
        rw [List.foldl_append]
        rfl
    rintro H2 ⟨s2, hD⟩
    have hkn : mergeK [] (kv0.take (ac.map V.ref).length) = kv0 := by
      have l3 : ac.length = (atC cs (chs.take i)).1.length := hcc.len
      rw [List.length_map, List.take_of_length_le (by rw [hrow.1, l3]; exact Nat.le_refl _)]
      have := merge_new kv0 [] (by rw [List.nil_append, hrow.keys]; exact nodup_inr gi.names)
      rw [List.nil_append] at this
      exact this
    rw [hkn] at hD
    have s02 := s1.trans s2
    have nD0 : H D = none := s1.free nD
    refine ⟨_, rfl, by show 1 ≤ sizeLine; decide, fun f nf => ?_⟩
    have nf0 : H f = none := s02.free nf
    have s03 : Same H (upd H2 f (.lst [.ref D])) := s02.trans (same_new nf)
    have hD3 : upd H2 f (.lst [.ref D]) D = some (.dK kv0) := same_new nf _ _ hD
    have hf3 : upd H2 f (.lst [.ref D]) f = some (.lst ([D].map V.ref)) := upd_same
    generalize upd H2 f (.lst [.ref D]) = H3 at s03 hD3 hf3 ⊢
    refine ⟨_, rfl, r, _, 0, _, rfl, rfl, same_tup s03 h1, rfl, _, rfl, (i : Nat), (e : Nat), rfl, by omega, ?_⟩
    have hn : (((e : Nat) : Int) - ((i : Nat) : Int)).toNat = e - i := by omega
    rw [hn]
    refine for_range (fun j σ H' => ∃ (ds : List Addr) (kd : Addr) (y6 : Option V), σ = [some (.ref h), some (.ref r), some (.int (e : Nat)), some (.ref lc), some (.ref kd), some (.ref f), y6, none, none] ∧ Same H H' ∧ H' f = some (.lst (ds.map V.ref)) ∧ ds.length = j + 1 ∧ ds[j]? = some kd ∧ Fol cs chs i kv0 H' ds) ⟨[D], D, _, rfl, s03, hf3, rfl, rfl, fun t d ht => ?_⟩ ?_ ?_
    · cases t with
      | zero =>
        obtain rfl := Option.some.inj ht
        exact ⟨kv0, rfl, hD3⟩
      | succ t => simp at ht
    · rintro j σ H' hj ⟨ds, kd, y6, rfl, s', hf, hlen', hkd, hF⟩
      have e0 : ((i : Nat) : Int) + (j : Int) = ((i + j : Nat) : Int) := by omega
      rw [e0]
      have hij : i + j < chs.length := by omega
      have hci : chs[i + j]? = some chs[i + j] := List.getElem?_eq_getElem hij
      obtain ⟨ft, hz⟩ := hO.f (i + j) _ hci
      have gj := hO.f.good hO.g (i + j) (by omega)
      obtain ⟨rj, hr1, hr2⟩ := hF j kd hkd
      have rowj := folTo_row hO hrow j (by omega) rj hr1
      refine q_asgX ⟨_, rfl, h, dx, fs, rfl, s' _ _ hi, no, _, rfl, h, cs, chs, .int ((i + j : Nat) : Int), rfl, hh.keep s', by omega, .inr (isE (i + j) (by omega)), fun l2 a2 H4 nl2 s4 hl2 hc2 => ?_⟩
      rw [hcol] at hc2
      have s04 := s'.trans s4
      refine ⟨_, rfl, _, rfl, h, dx, fs, rfl, s04 _ _ hi, h, cs, chs, i + j, rfl, hh.keep s04, hij, fun t ch hch hat => ?_⟩
      obtain rfl := Option.some.inj (hci.symm.trans hch)
      refine ⟨_, rfl, l2, t, kd, a2, (atC cs (chs.take (i + j))).1, chs[i + j], rj, rfl, hl2, hc2, hat, s4 _ _ hr2, rowj, gj.names, gj.six, ft, fun H5 s5 hno => ?_, fun d' r' H5 nd' s5 hd' hyes => ?_⟩
      · refine ⟨_, rfl, rfl, _, rfl, iteDT rfl ⟨_, rfl, ?_⟩⟩
        refine k f ds H5 nf0 (s04.trans s5) (s5 _ _ (s4 _ _ hf)) ((hF.keep s4).keep s5) (by omega) (by omega) (.inr ?_)
        rw [hlen', folTo_succ hr1 hci]
        exact hno
      · refine ⟨_, rfl, rfl, _, rfl, iteD (fun z => by cases z) (nxt ?_)⟩
        have s05 := s04.trans s5
        have hf5 := s5 _ _ (s4 _ _ hf)
        have hF5 := (hF.keep s4).keep s5
        have nfd : d' ≠ f := fun z => by rw [z, s4 _ _ hf] at nd'; cases nd'
        refine ⟨_, rfl, .inl ⟨rfl, _, sqL_of hf5⟩, _, rfl, f, _, _, rfl, rfl, hf5, ?_, ds ++ [d'], d', _, rfl, same_mut s05 nf0, ?_, ?_, ?_, fun t d ht => ?_⟩
        · have e : sizeLine = 16777216 := by decide
          rw [List.length_map]
          omega
        · rw [upd_same, List.map_append]
          rfl
        · rw [List.length_append, hlen']
          rfl
        · rw [List.getElem?_append_right (by omega), hlen', Nat.sub_self]
          rfl
        · by_cases htl : t < ds.length
          · rw [List.getElem?_append_left htl] at ht
            obtain ⟨rt, q1, q2⟩ := hF5 t d ht
            exact ⟨rt, q1, by rw [upd_ne (fun z => by rw [z, hf5] at q2; cases q2)]; exact q2⟩
          · have htd : t = ds.length := by
              have h := (List.getElem?_eq_some_iff.mp ht).1
              rw [List.length_append] at h
              have : [d'].length = 1 := rfl
              omega
            subst htd
            rw [List.getElem?_append_right (Nat.le_refl _), Nat.sub_self] at ht
            obtain rfl := Option.some.inj ht
            refine ⟨r', ?_, by rw [upd_ne nfd]; exact hd'⟩
            rw [hlen', folTo_succ hr1 hci]
            exact hyes
    · rintro σ H' ⟨ds, kd, y6, rfl, s', hf, hlen', hkd, hF⟩
      exact ⟨_, rfl, k f ds H' nf0 s' hf hF (by omega) (by omega) (.inl (by omega))⟩
/-! a stored row is one that is stored, as is_stored tells it -/
theorem st_true {K : PySem.W.Frag} {r : Addr} {ed : Int} {es : List (Int × V)} {H : Hp} {cs : List Col} {chs : List Ch} (h : StF K H r ed es) (he : isEd chs.length (.int ed) = true) (f : FitE (colsAt cs chs (.int ed)) es) : StV K H cs chs (.ref r) true := by
  obtain ⟨q, as, o, h1, h2, _, h4⟩ := h
  have hb : (List.replicate as.length true).all id = true := by
    rw [List.all_eq_true]
    intro x hx
    exact (List.mem_replicate.mp hx).2
  rw [← hb]
  refine StV.all _ h1 (.base (.int ed)) he (.inl (.inr ⟨o, h2⟩)) (by rw [List.length_map, h4.len, f.1]) (by rw [List.length_replicate, List.length_map]) fun i c e b hc he' hbi H' s' => ?_
  rw [List.getElem?_map] at he'
  cases hai : as[i]? with
  | none =>
    rw [hai] at he'
    cases he'
  | some a =>
    rw [hai] at he'
    obtain rfl := Option.some.inj he'
    obtain ⟨v, h5, h6⟩ := f.2 i c hc
    obtain ⟨e2, h7, h8⟩ := h4.at_ hai
    obtain rfl := Option.some.inj (h5.symm.trans h7)
    obtain rfl : true = b := by
      rw [List.getElem?_replicate] at hbi
      split at hbi
      · exact Option.some.inj hbi
      · cases hbi
    obtain ⟨ty, hty⟩ := ty_in (K := K) h6
    have := EntV.two (K := K) (c := c) (same_tup s' h8) (.base (.int c.num)) (hty H')
    rw [show entB c (.int c.num) v = true by show (decide (c.num = c.num) && isIn c.top v) = true; rw [h6, decide_eq_true rfl]; rfl] at this
    exact this

/-! RowAt and is_stored -/
theorem RowAt.ok {K : PySem.W.Frag} {H : Hp} {cs : List Col} {chs : List Ch} {r : Addr} {i : Nat} {es : List (Int × V)} (h : RowAt K H cs chs r i es) : StV K H cs chs (.ref r) true := by
  refine st_true h.sf ?_ h.fit
  show (decide ((0 : Int) ≤ (i : Nat)) && decide (((i : Nat) : Int) ≤ (chs.length : Nat))) = true
  have := h.le
  rw [decide_eq_true (by omega), decide_eq_true (by omega)]
  rfl

/-! followed, barred_at: what becomes of a stored row -/
def sp_followed (K : PySem.W.Frag) : Sp := fun vs H Q _ => ∃ (h r : Addr) (cs : List Col) (chs : List Ch) (i : Nat) (es : List (Int × V)) (x : V), vs = [.ref h, .ref r, x] ∧ HistAt K H h cs chs ∧ HistOk cs chs ∧ RowAt K H cs chs r i es ∧ (x = .non ∨ isEd chs.length x = true) ∧ (i : Int) ≤ edOf chs.length x ∧
  (∀ H', Same H H' → folTo cs chs i (rowE (atC cs (chs.take i)).1 es) ((edOf chs.length x).toNat - i) = none → Q .non H') ∧
  ∀ (d : Addr) (kvs : List (Key × V)) (H' : Hp), Same H H' → H' d = some (.dK kvs) → folTo cs chs i (rowE (atC cs (chs.take i)).1 es) ((edOf chs.length x).toNat - i) = some kvs → Q (.ref d) H'
theorem ok_followed (T : Tx K mg) : ∃ fd, FnOk P w K mg base CX0 7 (He.ga K "followed") fd ["history", "row", "edition"] (sp_followed K) ∧ (∃ g, KBn K fd ["history", "row", "edition"] 2 ["edition"] g (fun vs zs => vs ++ zs)) ∧ (∃ ds, Vals [V.non] ds ∧ Binds K fd ["history", "row", "edition"] ds) ∧ PySem.W.keepIn K (.ref (He.ga K "followed")) = true := by
  have C1 := ok_is_stored (P := P) (w := w) (base := base) T
  have C2 := (ok_edition_of (P := P) (w := w) (base := base) T).up (show 4 ≤ 6 by decide)
  have C3 := ok_trail (P := P) (w := w) (base := base) T
  obtain ⟨fd, F⟩ := fd_followed T
  refine ⟨fd, F.ok (CX := CX0) sc_followed (fun vs H Q E h => ?_) (fun cdv A outer s H vs Q E hr h => ?_), ?_, ?_, F.kp⟩
  · obtain ⟨h, r, cs, chs, i, es, x, rfl, _⟩ := h
    rfl
  · suffices hh : ∃ t, PSs (cxOf CX0 P w K mg base ["history", "row", "edition", "at", "found"] "followed" (defScope s_followed) (He.ga K "followed") cdv A outer s H E).nox (defBody s_followed) t ∧ t { nx := fun _ H' => Q .non H', rt := Q } (start ["history", "row", "edition", "at", "found"] vs) H by
      obtain ⟨t, h1, h2⟩ := hh
      exact ⟨t, h1.nox, h2⟩
    obtain ⟨h, r, cs, chs, i, es, x, rfl, hh, hO, hR, hx, hix, kn, ky⟩ := h
    have nd := sc_followed.nd
    have few := hO.few
    refine ⟨_, pss_cons (ps_if (pt_not (pt_val (pcall C1 hr (pa_cons (pv 0) (pa_cons (pv 1) pa_nil))))) (pss_one ps_never) pss_nil)
      (pss_cons (ps_set (i := 3) nd rfl (Or.inl rfl) (pcall C2 hr (pa_cons (pv 0) (pa_cons (pv 2) pa_nil))))
      (pss_cons (ps_if (pt_cmpR op_lt (pv 3) (pe_ix ix_tup (pv 1) pe_int (fun _ _ => rfl)) (nomark _)) (pss_one ps_never) pss_nil)
      (pss_cons (ps_set (i := 4) nd rfl (Or.inl rfl) (pcall C3 hr (pa_cons (pv 0) (pa_cons (pv 1) (pa_cons (pv 3) pa_nil)))))
      (pss_cons (ps_if (pt_cmpR op_le (pe_callB call_len (by rfl) (fr_len T) PySem.boot_len (pa_cons (pv 4) pa_nil)) (pe_op op_sub (pv 3) (pe_ix ix_tup (pv 1) pe_int (fun _ _ => rfl))) (nomark _)) (pss_one (ps_ret pe_non)) pss_nil)
      (pss_one (ps_ret (pe_ix ix_list (pv 4) (pe_un un_neg pe_int) (fun _ _ => rfl)))))))), ?_⟩
    have hst := hR.st
    have hfit := hR.fit
    have hil := hR.le
    have hok := hR.ok
    have bd := isEd_ix hx
    obtain ⟨q, as, h1, h2, he⟩ := id hst
    refine ⟨_, rfl, _, rfl, h, cs, chs, .ref r, true, rfl, hh, by omega, cols_few hO, hok, fun H1 s1 => ⟨_, rfl, iteF (nxt ?_)⟩⟩
    refine ⟨_, rfl, _, rfl, h, cs, chs, x, rfl, hh.keep s1, by omega, hx, ?_⟩
    obtain ⟨e, he0⟩ : ∃ e : Nat, edOf chs.length x = (e : Int) := ⟨(edOf chs.length x).toNat, by omega⟩
    rw [he0] at bd hix kn ky ⊢
    have hie : i ≤ e := by omega
    rw [Int.toNat_natCast] at kn ky
    refine ⟨_, rfl, _, rfl, r, _, 0, _, rfl, rfl, same_tup s1 h1, rfl, _, _, rfl, rfl, _, rfl, ?_⟩
    rw [decide_eq_false (by omega)]
    refine iteF (nxt ⟨_, rfl, _, rfl, _, rfl, h, r, cs, chs, i, e, es, rfl, hh.keep s1, hO, hie, by omega, hst.keep s1, hfit, fun l ds H2 nl s2 hl hF h1le hle hend => ?_⟩)
    have hst2 := (hst.keep s1).keep s2
    refine ⟨_, rfl, _, ds.length, rfl, .inl ⟨_, sqL_of hl, by rw [List.length_map]⟩, _, rfl, _, rfl, r, _, 0, _, rfl, rfl, same_tup s2 (same_tup s1 h1), rfl, _, _, rfl, rfl, _, _, rfl, rfl, _, rfl, ?_⟩
    rcases hend with hend | hend
    · rw [decide_eq_false (by omega)]
      refine iteF (nxt ?_)
      have hlast : ds[e - i]? = some (ds[e - i]'(by omega)) := List.getElem?_eq_getElem _
      obtain ⟨rr, q1, q2⟩ := hF _ _ hlast
      have am1 : atI (ds.map V.ref) (-1) = some (.ref (ds[e - i]'(by omega))) := by
        unfold atI ixN
        rw [if_neg (by omega), if_pos (by rw [List.length_map]; omega), List.length_map, show ((-1 : Int) + (ds.length : Nat)).toNat = e - i by omega]
        show (ds.map V.ref)[e - i]? = _
        rw [List.getElem?_map, hlast]
        rfl
      exact ⟨_, rfl, 1, rfl, l, _, -1, _, rfl, rfl, sqL_of hl, am1, ky _ rr H2 (s1.trans s2) q2 q1⟩
    · by_cases hq : ds.length ≤ e - i
      · rw [decide_eq_true (by omega)]
        exact iteT (kn H2 (s1.trans s2) (folTo_le hend hq))
      · have := folTo_le hend (Nat.le_refl _)
        rw [decide_eq_false (by omega)]
        refine iteF (nxt ?_)
        have hlast : ds[e - i]? = some (ds[e - i]'(by omega)) := List.getElem?_eq_getElem _
        obtain ⟨rr, q1, q2⟩ := hF _ _ hlast
        have am1 : atI (ds.map V.ref) (-1) = some (.ref (ds[e - i]'(by omega))) := by
          unfold atI ixN
          rw [if_neg (by omega), if_pos (by rw [List.length_map]; omega), List.length_map, show ((-1 : Int) + (ds.length : Nat)).toNat = e - i by omega]
          show (ds.map V.ref)[e - i]? = _
          rw [List.getElem?_map, hlast]
          rfl
        exact ⟨_, rfl, 1, rfl, l, _, -1, _, rfl, rfl, sqL_of hl, am1, ky _ rr H2 (s1.trans s2) q2 q1⟩
  · have h := F.kbinds0 (ps := ["history", "row", "edition"]) 2 ["edition"] [] (fun us mv ws => us ++ ws) (by intro z; cases z) (by intro q hq; cases hq) (fun r1 _ r4 => r1.append r4) (fun D doc pm an cdv ct us mv ws h1 h2 h3 => ?_)
    · obtain ⟨mv, h⟩ := h
      exact ⟨_, h⟩
    · match us, h1, mv, h2, ws, h3 with
      | [u0, u1], _, [], _, [w0], _ => exact rfl
  · exact F.binds0 (ps := ["history", "row", "edition"]) 2 (by intro z; cases z) rfl (fun D doc pm an cdv ct us ks h1 h2 => by
      match us, h1, ks, h2 with
      | [u0, u1], _, [i0], _ => exact ⟨_, _, _, _, _, _, rfl, rfl, rfl⟩)
/-! barred_at -/
/-- the answer: the first edition that a row cannot be followed to -/
def sp_barred_at (K : PySem.W.Frag) : Sp := fun vs H Q _ => ∃ (h r : Addr) (cs : List Col) (chs : List Ch) (i : Nat) (es : List (Int × V)), vs = [.ref h, .ref r] ∧ HistAt K H h cs chs ∧ HistOk cs chs ∧ RowAt K H cs chs r i es ∧
  (∀ H', Same H H' → (∃ kvs, folTo cs chs i (rowE (atC cs (chs.take i)).1 es) (chs.length - i) = some kvs) → Q .non H') ∧
  ∀ (m : Nat) (H' : Hp), Same H H' → i + m + 1 ≤ chs.length → (∃ kvs, folTo cs chs i (rowE (atC cs (chs.take i)).1 es) m = some kvs) → folTo cs chs i (rowE (atC cs (chs.take i)).1 es) (m + 1) = none → Q (.int ((i + m + 1 : Nat) : Int)) H'
theorem ok_barred_at (T : Tx K mg) : Callee P w K mg base CX0 7 "barred_at" ["history", "row"] [] (sp_barred_at K) := by
  have C1 := ok_is_stored (P := P) (w := w) (base := base) T
  have C3 := ok_trail (P := P) (w := w) (base := base) T
  obtain ⟨fdL, FL, bL⟩ := ok_Hist_len (P := P) (w := w) (base := base) T
  refine mkCallee (fd_barred_at T) (mg_barred_at T) sc_barred_at (fun _ _ _ _ _ _ us hl => match us, hl with | [_, _], _ => rfl) (fun vs H Q E h => ?_) (fun cdv A outer s H vs Q E hr h => ?_)
  · obtain ⟨h, r, cs, chs, i, es, rfl, _⟩ := h
    rfl
  · obtain ⟨h, r, cs, chs, i, es, rfl, hh, hO, hR, kn, ky⟩ := h
    have nd := sc_barred_at.nd
    have few := hO.few
    have hrL := hr.mono (show 2 ≤ 6 by decide)
    refine ⟨_, pss_cons (ps_if (pt_not (pt_val (pcall C1 hr (pa_cons (pv 0) (pa_cons (pv 1) pa_nil))))) (pss_one ps_never) pss_nil)
      (pss_cons (ps_set (i := 2) nd rfl (Or.inl rfl) (pe_op op_add (pe_ix ix_tup (pv 1) pe_int (fun _ _ => rfl)) (pe_callB call_len (by rfl) (fr_len T) PySem.boot_len (pa_cons (pcall C3 hr (pa_cons (pv 0) (pa_cons (pv 1) (pa_cons (pe_callB (call_lenOwn FL (me_History___len__ T) hrL bL pass0) (by rfl) (fr_len T) PySem.boot_len (pa_cons (pv 0) pa_nil)) pa_nil)))) pa_nil))))
      (pss_cons (ps_if (pt_cmpR op_gt (pv 2) (pe_callB (call_lenOwn FL (me_History___len__ T) hrL bL pass0) (by rfl) (fr_len T) PySem.boot_len (pa_cons (pv 0) pa_nil)) (nomark _)) (pss_one (ps_ret pe_non)) pss_nil)
      (pss_one (ps_ret (pv 2))))), ?_⟩
    have hst := hR.st
    have hfit := hR.fit
    have hil := hR.le
    have hok := hR.ok
    obtain ⟨q, as, h1, h2, he⟩ := id hst
    obtain ⟨dx, fs, hi⟩ := histNo hh
    refine ⟨_, rfl, _, rfl, h, cs, chs, .ref r, true, rfl, hh, by omega, cols_few hO, hok, fun H1 s1 => ⟨_, rfl, iteF (nxt ?_)⟩⟩
    refine ⟨_, rfl, r, _, 0, _, rfl, rfl, same_tup s1 h1, rfl, _, rfl, _, rfl, _, rfl, h, dx, fs, rfl, s1 _ _ hi, h, cs, chs, rfl, hh.keep s1, _, rfl, ⟨by omega, by omega⟩, h, r, cs, chs, i, chs.length, es, rfl, hh.keep s1, hO, hil, Nat.le_refl _, hst.keep s1, hfit, fun l ds H2 nl s2 hl hF h1le hle hend => ?_⟩
    refine ⟨_, ds.length, rfl, .inl ⟨_, sqL_of hl, by rw [List.length_map]⟩, _, _, rfl, rfl, ?_⟩
    have s12 := s1.trans s2
    refine ⟨_, rfl, _, rfl, h, dx, fs, rfl, s12 _ _ hi, h, cs, chs, rfl, hh.keep s12, _, rfl, ⟨by omega, by omega⟩, _, _, rfl, rfl, _, rfl, ?_⟩
    have hlast : ds[ds.length - 1]? = some (ds[ds.length - 1]'(by omega)) := List.getElem?_eq_getElem _
    obtain ⟨rr, q1, q2⟩ := hF _ _ hlast
    by_cases hfull : ds.length = chs.length - i + 1
    · rw [decide_eq_true (by omega)]
      refine iteT (kn H2 s12 ⟨rr, ?_⟩)
      rw [show chs.length - i = ds.length - 1 by omega]
      exact q1
    · rw [decide_eq_false (by omega)]
      refine iteF (nxt ⟨_, rfl, ?_⟩)
      have e : ((i : Nat) : Int) + ((ds.length : Nat) : Int) = ((i + (ds.length - 1) + 1 : Nat) : Int) := by omega
      show Q (.int (((i : Nat) : Int) + ((ds.length : Nat) : Int))) H2
      rw [e]
      refine ky (ds.length - 1) H2 s12 (by omega) ⟨rr, q1⟩ ?_
      rw [show ds.length - 1 + 1 = ds.length by omega]
      exact hend.resolve_left hfull
/-! xs != ys of lists whose items are equal one by one, own == among them -/
section
open PySem.SeqAt
open PySem.AutoSeq1 (wpAny_loadPart')
open PySem.MeetsSeq PySem.MeetsSeq2 PySem.MeetsSeq3 PySem.SeqRoads2
section
variable {prog : Program} {w : World} {A : Around} {R : Result → Shared → Prop}
theorem nw_loop (l b : Addr) (N : Nat) (J : Nat → Shared → Prop) (turns : GQ.ListI prog w A (fun e s' => R (.error e) s') l b N J) (last : ∀ s, J N s → R (.ok (.ret (.bool false))) s) :
    ∀ (m i : Nat), N - i = m → i ≤ N → ∀ s, J i s → wpAny (model prog w) A.in1 (Builtin.«list.__eq__.loop» ⟨[.ref l, .ref b, rawInt i, rawInt 3], []⟩) (GQ.FinOf prog w A R) (fun e s' => R (.error e) s') s
  | 0, i, hm, hi, s, hJ => by
    obtain ⟨us, vs, n, n2, hu, hv, zu, zv, _⟩ := turns i s hJ
    have ei : i = N := by omega
    have done := last s (ei ▸ hJ)
    obtain ⟨hp, g, d, tk, os⟩ := s
    wp_walk using wpAny_loadPart' hu, wpAny_loadPart' hv
    rw [show us[((i : Nat) : Int).toNat]? = none by simp; omega, show vs[((i : Nat) : Int).toNat]? = none by simp; omega]
    wp_walk using wpAny_loadPart' hu, wpAny_loadPart' hv
    show R (.ok (.ret (.bool (us.size != vs.size)))) _
    rw [zu, zv]
    simpa using done
  | m + 1, i, hm, hi, s, hJ => by
    obtain ⟨us, vs, n, n2, hu, hv, zu, zv, turn⟩ := turns i s hJ
    have lu : i < us.size := by omega
    have lv : i < vs.size := by omega
    have one := turn lu lv
    obtain ⟨hp, g, d, tk, os⟩ := s
    wp_walk using wpAny_loadPart' hu, wpAny_loadPart' hv
    rw [show us[((i : Nat) : Int).toNat]? = some us[i] by simp [lu], show vs[((i : Nat) : Int).toNat]? = some vs[i] by simp [lv]]
    refine wpAny_bind (wpAny_mono one (fun r s2 q => ?_) fun _ _ x => x)
    obtain ⟨er, hJ2⟩ := q
    subst er
    have rest := nw_loop l b N J turns last m (i + 1) (by omega) (by omega) s2 hJ2
    obtain ⟨hp2, g2, d2, tk2, os2⟩ := s2
    wp_walk
    rw [show ((i : Int) + 1) = ((i + 1 : Nat) : Int) by omega]
    exact ⟨plainId_quiet plain_eq_loop _, codeAny_builtin entry_eq_loop (by
      rw [Around.under_plainId plain_eq_loop _]
      exact rest)⟩
theorem nw_list (l b : Addr) (N : Nat) (J : Nat → Shared → Prop) (turns : GQ.ListI prog w A (fun e s' => R (.error e) s') l b N J) (last : ∀ s, J N s → R (.ok (.ret (.bool false))) s) {s : Shared} (hJ : J 0 s) :
    wpAny (model prog w) A.in1 (Builtin.«list.__ne__» ⟨[.ref l, .ref b], []⟩) (GQ.FinOf prog w A R) (fun e s' => R (.error e) s') s := by
  obtain ⟨us, vs, n, n2, hu, hv, zu, zv, _⟩ := turns 0 s hJ
  have rest := nw_loop (A := A) (R := R) l b N J turns last N 0 rfl (Nat.zero_le _) s hJ
  obtain ⟨hp, g, d, tk, os⟩ := s
  have both := AutoSeq1.sub_list_list
  have same : ¬ (us.size != vs.size) = true := by simp [zu, zv]
  wp_walk using wpAny_loadPart' hu, wpAny_loadPart' hv
  exact ⟨plainId_quiet plain_eq_loop _, codeAny_builtin entry_eq_loop (by
    rw [Around.under_plainId plain_eq_loop _]
    exact rest)⟩
end
theorem nw_rc {prog : Program} {w : World} {A : Around} {E : Value → Shared → Prop} {s : Shared} {l b : Addr} {N : Nat} {Q : Value → Shared → Prop} (hu : A.units < cLine) (J : Nat → Shared → Prop) (turns : GQ.ListI prog w A E l b N J) (last : ∀ s, J N s → Q (.bool false) s) (hJ : J 0 s) :
    wpAny (model prog w) A (richCompare .NotEq (.ref l) (.ref b)) Q E s := by
  obtain ⟨us, vs, n, n2, h1, h2, _⟩ := turns 0 s hJ
  refine wpAny_richCompare_same_room (op := .NotEq) ⟨_, h1, rfl⟩ ⟨_, h2, rfl⟩ F.slot_list_ne (GQ.call_here F.slot_list_ne ⟨_, h1, rfl⟩ F.entry_list_ne (F.args_list_ne_2 _ _) ?_) hu
  exact nw_list (R := wants (fun v s' => v ≠ .notImplemented ∧ Q v s') E) l b N J turns (fun s' q => ⟨(fun x => nomatch x), last s' q⟩) hJ
end
def rNeG (D : Eqv) : R2 := fun x y H Q => DList D x y H ∧ ∀ H', Ext H H' → Q (.bl false) H'
theorem op_neG {X : Cx} {n : Nat} {D : Eqv} (hD : Mon D) (h : EqG X n D) (hr : Room (n + 1) X.A) : OpR X (compareOp .NotEq) (rNeG D) := by
  intro pins s σ H x y v u Q I rx ry q
  obtain ⟨⟨a, b, xs, ys, rfl, rfl, ha, hb, p⟩, k⟩ := q
  cases rx
  cases ry
  have sb : Sub X (n + 1) X.A := ⟨hr, rfl⟩
  show wpAny (model X.prog X.w) X.A (richCompare .NotEq (.ref a) (.ref b)) (EP X pins σ Q) X.xe s
  refine nw_rc (N := xs.length) hr.units0 (fun _ s' => LoopI X pins σ H s') (fun i s' q => ?_) (fun s' q => ?_) ⟨H, I, Ext.rfl'⟩
  · obtain ⟨H1, I1, e1⟩ := id q
    obtain ⟨z, its, k1, r, e⟩ := I1.hok a _ (e1 _ _ ha)
    obtain ⟨z2, its2, k2, r2, e2⟩ := I1.hok b _ (e1 _ _ hb)
    exact ⟨its.toArray, its2.toArray, k1, k2, e, e2, by rw [List.size_toArray, ← r.length], by rw [List.size_toArray, ← r2.length, ← p.1], fun h1 h2 => turnG hD h sb p r r2 i h1 h2 s' q⟩
  · obtain ⟨H1, I1, e1⟩ := q
    exact ⟨.bl false, H1, I1, rfl, k H1 e1⟩

-- needs: Column.__eq__ +NELIST
/-! != of lists of Columns -/
def ColR (K : PySem.W.Frag) : Addr → Addr → Hp → Prop := fun a b H => ∃ c, ColA K H a c ∧ ColA K H b c ∧ isVal c.dflt = true
theorem colR_mon {K : PySem.W.Frag} (a b : Addr) (H H' : Hp) (e : Ext H H') (h : ColR K a b H) : ColR K a b H' := by
  obtain ⟨c, h1, h2, h3⟩ := h
  exact ⟨c, ColA.keep e h1, ColA.keep e h2, h3⟩
abbrev DCol (K : PySem.W.Frag) : Eqv := DIns (He.ga K "Column") (ColR K)
theorem eqG_col {X : Cx} {f : Addr} {fd : FuncData} {ps : List Str} (F : FnOk X.prog X.w X.K X.mg X.base CX0 1 f fd ps (sp_Col_eq X.K)) (hm : Meth X.K (He.ga X.K "Column") "__eq__" f) (hb : Binds X.K fd ps []) : EqG X 1 (DCol X.K) := by
  have F2 : FnOk X.prog X.w X.K X.mg X.base CX0 1 f fd ps (spEq (ColR X.K)) := F.imp fun vs H Q E h => by
    obtain ⟨a, b, rfl, ⟨c, h1, h2, h3⟩, k⟩ := h
    exact ⟨a, b, c, c, rfl, h1, h2, h3, h3, by rw [colEq_self]; exact k H (fun _ _ e => e)⟩
  refine (rcG_ins (E := E0) F2 hm.at_ hm.fn hb pass0).eqG fun x y H d => ?_
  obtain ⟨a, b, _, _, _, _, h1, h2, _⟩ := d
  exact ⟨a, b, h1, h2⟩
theorem op_neCols {X : Cx} {f : Addr} {fd : FuncData} {ps : List Str} (F : FnOk X.prog X.w X.K X.mg X.base CX0 1 f fd ps (sp_Col_eq X.K)) (hm : Meth X.K (He.ga X.K "Column") "__eq__" f) (hb : Binds X.K fd ps []) (hr : Room 2 X.A) : OpR X (compareOp .NotEq) (rNeG (DCol X.K)) :=
  op_neG (mon_ins colR_mon) (eqG_col F hm hb) hr
theorem prs_cols {K : PySem.W.Frag} {H : Hp} : ∀ {as bs : List Addr} {cs : List Col}, Cols K H as cs → Cols K H bs cs → (∀ c ∈ cs, isVal c.dflt = true) → Prs (DCol K) (as.map V.ref) (bs.map V.ref) H
  | _, _, _, .nil, .nil, _ => Prs.nil
  | _, _, _, .cons (a := a) (c := c) h1 t1, .cons (a := b) h2 t2, hv => by
    obtain ⟨dx, e1⟩ := id h1
    obtain ⟨dy, e2⟩ := id h2
    exact Prs.cons ⟨a, b, dx, dy, _, _, rfl, rfl, e1, e2, c, h1, h2, hv c List.mem_cons_self⟩ (prs_cols t1 t2 fun d hd => hv d (List.mem_cons_of_mem _ hd))
theorem ne_cols {K : PySem.W.Frag} {H : Hp} {l m : Addr} {as bs : List Addr} {cs : List Col} {Q : VK} (hl : H l = some (.lst (as.map V.ref))) (hm : H m = some (.lst (bs.map V.ref))) (h1 : Cols K H as cs) (h2 : Cols K H bs cs) (hv : ∀ c ∈ cs, isVal c.dflt = true) (k : ∀ H', Same H H' → Q (.bl false) H') :
    rNeG (DCol K) (.ref l) (.ref m) H Q := ⟨⟨l, m, _, _, rfl, rfl, hl, hm, prs_cols h1 h2 hv⟩, fun H' e => k H' e⟩

/-! check_both, of two histories with the same columns at the beginning -/
def sp_check_both (K : PySem.W.Frag) : Sp := fun vs H Q _ => ∃ (h m : Addr) (cs : List Col) (chs dhs : List Ch), vs = [.ref h, .ref m] ∧ HistAt K H h cs chs ∧ HistAt K H m cs dhs ∧ (∀ c ∈ cs, isVal c.dflt = true) ∧ ∀ H', Same H H' → Q .non H'
theorem ok_check_both (T : Tx K mg) : Callee P w K mg base CX0 3 "check_both" ["one", "other"] [] (sp_check_both K) := by
  obtain ⟨fd1, F1, b1⟩ := ok_Hist_first (P := P) (w := w) (base := base) T
  obtain ⟨fdQ, FQ, bQ⟩ := ok_Col_eq (P := P) (w := w) (base := base) T
  have ic := insC_of (ex_History T) (cl_History T)
  refine mkCallee (fd_check_both T) (mg_check_both T) sc_check_both (fun _ _ _ _ _ _ us hl => match us, hl with | [_, _], _ => rfl) (fun vs H Q E h => ?_) (fun cdv A outer s H vs Q E hr h => ?_)
  · obtain ⟨h, m, cs, chs, dhs, rfl, _⟩ := h
    rfl
  obtain ⟨h, m, cs, chs, dhs, rfl, hh, hm, hv, k⟩ := h
  have hr1 : Room 1 _ := hr.mono (by decide)
  refine ⟨_, (pss_cons (ps_if (pt_not (pt_val (pe_callB (C8.call_isC ic) (by rfl) (fr_isinstance T) (by decide +kernel) (pa_cons (pv 0) (pa_cons (pe_glob (v := .ref (He.ga K "History")) (by rfl) (mg_History T) rfl) pa_nil))))) (pss_one ps_never) pss_nil)
        (pss_one (ps_if (PW.pt (pw_or (pt_not (pt_val (pe_callB (C8.call_isC ic) (by rfl) (fr_isinstance T) (by decide +kernel) (pa_cons (pv 1) (pa_cons (pe_glob (v := .ref (He.ga K "History")) (by rfl) (mg_History T) rfl) pa_nil))))) (pw_or1 (pt_cmpR (op_neCols FQ (me_Column___eq__ T) bQ hr) (pe_meth0 (pv 1) (cl_History T) (me_History_first_columns T) F1 hr1 b1 .nil pass0) (pe_meth0 (pv 0) (cl_History T) (me_History_first_columns T) F1 hr1 b1 .nil pass0) (nomark _))))) (pss_one ps_never) pss_nil))), ?_⟩
  obtain ⟨dh, fh, ih, nh⟩ := histMx "first_columns" (by decide +kernel) hh
  obtain ⟨dm, fm, im, nm⟩ := histMx "first_columns" (by decide +kernel) hm
  refine ⟨_, rfl, h, dh, fh, rfl, ih, _, rfl, iteF (nxt ?_)⟩
  refine ⟨_, rfl, m, dm, fm, rfl, im, _, rfl, iteF ?_⟩
  refine ⟨_, rfl, m, dm, fm, rfl, im, nm, m, cs, dhs, rfl, hm, fun l as H1 nl s1 hl hc => ?_⟩
  refine ⟨_, rfl, h, dh, fh, rfl, s1 _ _ ih, nh, h, cs, chs, rfl, hh.keep s1, fun l2 as2 H2 nl2 s2 hl2 hc2 => ?_⟩
  refine ne_cols (s2 _ _ hl) hl2 (hc.keep s2) hc2 hv fun H3 s3 => ⟨_, rfl, iteF (k H3 ((s1.trans s2).trans s3))⟩
-- needs: column_named
/-! column_named, of what is no text -/
def noStr (K : PySem.W.Frag) (H : Hp) (x : V) : Prop := ∃ t, TyX K H x (.type t) ∧ kitB t "str" = some false
theorem noStr_non {K : PySem.W.Frag} {H : Hp} : noStr K H .non := ⟨_, .base .non, by decide +kernel⟩
theorem noStr_int {K : PySem.W.Frag} {H : Hp} (i : Int) : noStr K H (.int i) := ⟨_, .base (.int i), by decide +kernel⟩
def sp_column_namedN (K : PySem.W.Frag) : Sp := fun vs H Q _ => ∃ (l x : V), vs = [l, x] ∧ noStr K H x ∧ Q .non H
theorem ok_column_namedN (T : Tx K mg) : Callee P w K mg base CX0 1 "column_named" ["columns", "name"] [] (sp_column_namedN K) := by
  refine mkCallee (fd_column_named T) (mg_column_named T) sc_column_named (fun _ _ _ _ _ _ us hl => match us, hl with | [_, _], _ => rfl) (fun vs H Q E h => ?_) (fun cdv A outer s H vs Q E hr h => ?_)
  · obtain ⟨l, x, rfl, _⟩ := h
    rfl
  obtain ⟨l, x, rfl, ⟨t, ty, hk⟩, k⟩ := h
  have nd := sc_column_named.nd
  refine ⟨_, pss_cons (ps_if (pt_not (pt_val (pe_callB call_isi (by rfl) (fr_isinstance T) (by decide +kernel) (pa_cons (pv 1) (pa_cons (pe_bltn (v := .ty "str") (by rfl) (fr_str T) (by decide +kernel) rfl) pa_nil))))) (pss_one (ps_ret pe_non)) pss_nil)
    (pss_cons (ps_for PassesOwn.never rfl (pi_list (pv 0)) (pg_name (i := 2) nd rfl (Or.inl rfl)) (pss_one (ps_if (pt_cmpR op_eq (pe_fld (pv 2) rfl) (pv 1) (nomark _)) (pss_one (ps_ret (pv 2))) pss_nil))) (pss_one (ps_ret pe_non))), ?_⟩
  exact ⟨_, rfl, x, .ty "str", _, _, false, rfl, .ty "str", ty, kit_ty hk, _, rfl, iteT k⟩

/-! is_column_unlike, of any value -/
def colUnl (c1 c2 : List Col) : V → Bool
  | .str n => match c1.find? (isN n), c2.find? (isN n) with
    | some a, some b => !decide (V.int a.top = V.int b.top) || !decide (a.dflt = b.dflt)
    | none, none => false
    | _, _ => true
  | _ => false
theorem vscal2 {x y : V} (hx : isVal x = true) (hy : isVal y = true) : scal x y = true := by
  cases x with
  | non => cases y <;> first | rfl | cases hy
  | int i => cases y <;> first | rfl | cases hy
  | _ => cases hx
def sp_col_unlike (K : PySem.W.Frag) : Sp := fun vs H Q _ => ∃ (h m : Addr) (cs ds : List Col) (chs dhs : List Ch) (x : V), vs = [.ref h, .ref m, x] ∧ HistAt K H h cs chs ∧ HistAt K H m ds dhs ∧ chs.length ≤ 1000 ∧ dhs.length ≤ 1000 ∧ (∀ c ∈ colsAt cs chs .non, isVal c.dflt = true) ∧ (∀ c ∈ colsAt ds dhs .non, isVal c.dflt = true) ∧
  ((∃ n, x = .str n) ∨ ((∀ n, x ≠ .str n) ∧ ∀ H', Same H H' → noStr K H' x)) ∧ ∀ H', Same H H' → Q (.bl (colUnl (colsAt cs chs .non) (colsAt ds dhs .non) x)) H'
theorem ok_col_unlike (T : Tx K mg) : Callee P w K mg base CX0 6 "is_column_unlike" ["one", "other", "name"] [] (sp_col_unlike K) := by
  have C1 := (ok_column_named (P := P) (w := w) (base := base) T).up (show 1 ≤ 5 by decide)
  have C2 := (ok_column_namedN (P := P) (w := w) (base := base) T).up (show 1 ≤ 5 by decide)
  obtain ⟨fdC, FC, _, dsC, vC, bC⟩ := ok_Hist_columns (P := P) (w := w) (base := base) T
  have cl := cl_Column T
  refine mkCallee (fd_is_column_unlike T) (mg_is_column_unlike T) sc_is_column_unlike (fun _ _ _ _ _ _ us hl => match us, hl with | [_, _, _], _ => rfl) (fun vs H Q E h => ?_) (fun cdv A outer s H vs Q E hr h => ?_)
  · obtain ⟨h, m, cs, ds, chs, dhs, x, rfl, _⟩ := h
    rfl
  obtain ⟨h, m, cs, ds, chs, dhs, x, rfl, hh, hm, few, few2, hv1, hv2, hx, k⟩ := h
  have nd := sc_is_column_unlike.nd
  obtain ⟨dh, fh, ih, nh⟩ := histM hh
  obtain ⟨dm, fm, im, nm⟩ := histM hm
  rcases hx with ⟨n, rfl⟩ | ⟨nx, hx⟩
  · refine ⟨_, (pss_cons (ps_set (i := 3) nd rfl (Or.inl rfl) (pcall C1 hr (pa_cons (pe_meth0 (pv 0) (cl_History T) (me_History_columns T) FC hr bC vC pass0) (pa_cons (pv 2) pa_nil))))
        (pss_cons (ps_set (i := 4) nd rfl (Or.inl rfl) (pcall C1 hr (pa_cons (pe_meth0 (pv 1) (cl_History T) (me_History_columns T) FC hr bC vC pass0) (pa_cons (pv 2) pa_nil))))
        (pss_cons (ps_if (PW.pt (pw_or (pt_cmpR op_isN (pv 3) pe_non (nomark _)) (pw_or1 (pt_cmpR op_isN (pv 4) pe_non (nomark _))))) (pss_one (ps_ret (pe_or (pe_cmpR op_notN (pv 3) pe_non (nomark _)) (pe_one (pe_cmpR op_notN (pv 4) pe_non (nomark _)))))) pss_nil)
        (pss_one (ps_ret (pe_or (pe_cmpR op_ne (pe_fld (pv 3) rfl) (pe_fld (pv 4) rfl) (nomark _)) (pe_one (pe_cmpR op_ne (pe_fld (pv 3) rfl) (pe_fld (pv 4) rfl) (nomark _))))))))), ?_⟩
    refine q_asgX ⟨_, rfl, h, dh, fh, rfl, ih, nh, h, cs, chs, .non, rfl, hh, few, .inl rfl, fun l1 as1 H1 nl1 s1 hl1 hc1 => ⟨_, rfl, l1, as1, _, n, rfl, .inl (sqL_of hl1), hc1, fun v1 N1 => ?_⟩⟩
    dsimp only
    refine q_asgX ⟨_, rfl, m, dm, fm, rfl, s1 _ _ im, nm, m, ds, dhs, .non, rfl, hm.keep s1, few2, .inl rfl, fun l2 as2 H2 nl2 s2 hl2 hc2 => ⟨_, rfl, l2, as2, _, n, rfl, .inl (sqL_of hl2), hc2, fun v2 N2 => ?_⟩⟩
    dsimp only
    have s12 := s1.trans s2
    have hc1 := hc1.keep s2
    have kk := k H2 s12
    unfold colUnl at kk
    dsimp only at kk
    rcases N1 with ⟨rfl, f1⟩ | ⟨i1, a1, c1, rfl, ha1, hi1, f1⟩
    · rw [f1] at kk
      refine ⟨_, rfl, rfl, _, rfl, iteDT rfl ⟨_, rfl, rfl, _, rfl, iteNS rfl ⟨_, rfl, rfl, ?_⟩⟩⟩
      rcases N2 with ⟨rfl, f2⟩ | ⟨i2, a2, c2, rfl, ha2, hi2, f2⟩
      · rw [f2] at kk
        exact kk
      · rw [f2] at kk
        exact kk
    · rw [f1] at kk
      refine ⟨_, rfl, rfl, _, rfl, iteD (fun z => by cases z) ⟨_, rfl, rfl, _, rfl, ?_⟩⟩
      rcases N2 with ⟨rfl, f2⟩ | ⟨i2, a2, c2, rfl, ha2, hi2, f2⟩
      · rw [f2] at kk
        exact iteDT rfl ⟨_, rfl, rfl, _, rfl, iteNF (fun z => by cases z) kk⟩
      · rw [f2] at kk
        dsimp only at kk
        obtain ⟨c1', e1, dx1, at1⟩ := hc1.at_ ha1
        obtain rfl := Option.some.inj (hi1.symm.trans e1)
        obtain ⟨c2', e2, dx2, at2⟩ := hc2.at_ ha2
        obtain rfl := Option.some.inj (hi2.symm.trans e2)
        have q1 := hv1 c1 (List.mem_of_getElem? hi1)
        have q2 := hv2 c2 (List.mem_of_getElem? hi2)
        refine iteD (fun z => by cases z) (nxt ?_)
        refine ⟨_, rfl, a1, _, dx1, _, _, rfl, at1, cl_Column T, na_Column_greatest T, colFs_greatest, _, rfl, a2, _, dx2, _, _, rfl, at2, cl_Column T, na_Column_greatest T, colFs_greatest, rfl, _, rfl, ?_⟩
        cases h1 : decide (V.int c1.top = V.int c2.top) with
        | false =>
          rw [h1] at kk
          exact iteT kk
        | true =>
          rw [h1] at kk
          exact iteF ⟨_, rfl, a1, _, dx1, _, _, rfl, at1, cl_Column T, na_Column_default T, colFs_default, _, rfl, a2, _, dx2, _, _, rfl, at2, cl_Column T, na_Column_default T, colFs_default, vscal2 q1 q2, kk⟩
  · refine ⟨_, (pss_cons (ps_set (i := 3) nd rfl (Or.inl rfl) (pcall C2 hr (pa_cons (pe_meth0 (pv 0) (cl_History T) (me_History_columns T) FC hr bC vC pass0) (pa_cons (pv 2) pa_nil))))
        (pss_cons (ps_set (i := 4) nd rfl (Or.inl rfl) (pcall C2 hr (pa_cons (pe_meth0 (pv 1) (cl_History T) (me_History_columns T) FC hr bC vC pass0) (pa_cons (pv 2) pa_nil))))
        (pss_cons (ps_if (PW.pt (pw_or (pt_cmpR op_isN (pv 3) pe_non (nomark _)) (pw_or1 (pt_cmpR op_isN (pv 4) pe_non (nomark _))))) (pss_one (ps_ret (pe_or (pe_cmpR op_notN (pv 3) pe_non (nomark _)) (pe_one (pe_cmpR op_notN (pv 4) pe_non (nomark _)))))) pss_nil)
        (pss_one (ps_ret (pe_or (pe_cmpR op_ne (pe_fld (pv 3) rfl) (pe_fld (pv 4) rfl) (nomark _)) (pe_one (pe_cmpR op_ne (pe_fld (pv 3) rfl) (pe_fld (pv 4) rfl) (nomark _))))))))), ?_⟩
    refine q_asgX ⟨_, rfl, h, dh, fh, rfl, ih, nh, h, cs, chs, .non, rfl, hh, few, .inl rfl, fun l1 as1 H1 nl1 s1 hl1 hc1 => ⟨_, rfl, _, x, rfl, hx H1 s1, ?_⟩⟩
    dsimp only
    refine q_asgX ⟨_, rfl, m, dm, fm, rfl, s1 _ _ im, nm, m, ds, dhs, .non, rfl, hm.keep s1, few2, .inl rfl, fun l2 as2 H2 nl2 s2 hl2 hc2 => ⟨_, rfl, _, x, rfl, hx H2 (s1.trans s2), ?_⟩⟩
    dsimp only
    have kk := k H2 (s1.trans s2)
    have e0 : colUnl (colsAt cs chs .non) (colsAt ds dhs .non) x = false := by
      cases x with
      | str n => exact absurd rfl (nx n)
      | _ => rfl
    rw [e0] at kk
    exact ⟨_, rfl, rfl, _, rfl, iteDT rfl ⟨_, rfl, rfl, _, rfl, iteNS rfl ⟨_, rfl, rfl, kk⟩⟩⟩
/-! is_row_unlike, of a stored row of both -/
/-- what a stored row is followed to, at the present -/
def endE (cs : List Col) (chs : List Ch) (i : Nat) (es : List (Int × V)) : Option (List (Key × V)) := folTo cs chs i (rowE (atC cs (chs.take i)).1 es) (chs.length - i)
theorem end_bar {cs : List Col} {chs : List Ch} {i : Nat} {es : List (Int × V)} (hi : i ≤ chs.length) (h : endE cs chs i es = none) : ∃ m, i + m + 1 ≤ chs.length ∧ (∃ kvs, folTo cs chs i (rowE (atC cs (chs.take i)).1 es) m = some kvs) ∧ folTo cs chs i (rowE (atC cs (chs.take i)).1 es) (m + 1) = none := by
  unfold endE at h
  have key : ∀ n, folTo cs chs i (rowE (atC cs (chs.take i)).1 es) n = none → ∃ m, m + 1 ≤ n ∧ (∃ kvs, folTo cs chs i (rowE (atC cs (chs.take i)).1 es) m = some kvs) ∧ folTo cs chs i (rowE (atC cs (chs.take i)).1 es) (m + 1) = none := by
    intro n
    induction n with
    | zero => exact fun z => by cases z
    | succ n ih =>
      intro z
      cases hn : folTo cs chs i (rowE (atC cs (chs.take i)).1 es) n with
      | none =>
        obtain ⟨m, h1, h2, h3⟩ := ih hn
        exact ⟨m, by omega, h2, h3⟩
      | some kvs => exact ⟨n, Nat.le_refl _, ⟨kvs, hn⟩, z⟩
  obtain ⟨m, h1, h2, h3⟩ := key _ h
  exact ⟨m, by omega, h2, h3⟩
def sp_row_unlike (K : PySem.W.Frag) : Sp := fun vs H Q _ => ∃ (h m r : Addr) (cs ds : List Col) (chs dhs : List Ch) (i : Nat) (es : List (Int × V)), vs = [.ref h, .ref m, .ref r] ∧ HistAt K H h cs chs ∧ HistAt K H m ds dhs ∧ HistOk cs chs ∧ HistOk ds dhs ∧ RowAt K H cs chs r i es ∧ RowAt K H ds dhs r i es ∧
  ∀ H', Same H H' → Q (.bl ((endE cs chs i es).isNone != (endE ds dhs i es).isNone)) H'
theorem ok_row_unlike (T : Tx K mg) : Callee P w K mg base CX0 8 "is_row_unlike" ["one", "other", "row"] [] (sp_row_unlike K) := by
  have C1 := ok_barred_at (P := P) (w := w) (base := base) T
  refine mkCallee (fd_is_row_unlike T) (mg_is_row_unlike T) sc_is_row_unlike (fun _ _ _ _ _ _ us hl => match us, hl with | [_, _, _], _ => rfl) (fun vs H Q E h => ?_) (fun cdv A outer s H vs Q E hr h => ?_)
  · obtain ⟨h, m, r, cs, ds, chs, dhs, i, es, rfl, _⟩ := h
    rfl
  obtain ⟨h, m, r, cs, ds, chs, dhs, i, es, rfl, hh, hm, o, o2, r1, r2, k⟩ := h
  refine ⟨_, (pss_one (ps_ret (pe_cmpR op_ne (pe_cmpR op_isN (pcall C1 hr (pa_cons (pv 0) (pa_cons (pv 2) pa_nil))) pe_non (nomark _)) (pe_cmpR op_isN (pcall C1 hr (pa_cons (pv 1) (pa_cons (pv 2) pa_nil))) pe_non (nomark _)) (nomark _)))), ?_⟩
  have last : ∀ (H1 : Hp), Same H H1 → ∀ (b : Bool), b = (endE cs chs i es).isNone → ∀ (v : V), (v = .non ↔ b = false) → ∀ (H2 : Hp), Same H1 H2 → ∀ u : V, (u = .non ↔ (endE ds dhs i es).isNone = false) → Q (.bl (!decide (V.bl (decide (v = .non)) = V.bl (decide (u = .non))))) H2 := by
    intro H1 s1 b eb v ev H2 s2 u eu
    have kk := k H2 (s1.trans s2)
    have e1 : decide (v = V.non) = !b := by
      cases b with
      | true => exact decide_eq_false fun z => by have := ev.mp z; cases this
      | false => exact decide_eq_true (ev.mpr rfl)
    have e2 : decide (u = V.non) = !(endE ds dhs i es).isNone := by
      cases hb : (endE ds dhs i es).isNone with
      | true => exact decide_eq_false fun z => by have := eu.mp z; rw [hb] at this; cases this
      | false => exact decide_eq_true (eu.mpr hb)
    rw [e1, e2, eb]
    have e3 : ∀ a c : Bool, (!decide (V.bl (!a) = V.bl (!c))) = (a != c) := by decide
    rw [e3]
    exact kk
  have nn : ∀ z : Int, ¬ V.int z = V.non := fun z e => by cases e
  have un : ∀ {cs : List Col} {chs : List Ch} {i : Nat} {es : List (Int × V)}, (∃ kvs, folTo cs chs i (rowE (atC cs (chs.take i)).1 es) (chs.length - i) = some kvs) → (endE cs chs i es).isNone = false := fun ⟨kvs, e⟩ => by
    unfold endE
    rw [e]
    rfl
  have ba : ∀ {cs : List Col} {chs : List Ch} {i m : Nat} {es : List (Int × V)}, i + m + 1 ≤ chs.length → folTo cs chs i (rowE (atC cs (chs.take i)).1 es) (m + 1) = none → (endE cs chs i es).isNone = true := fun {cs chs i m es} hle e => by
    unfold endE
    rw [folTo_le e (show m + 1 ≤ chs.length - i by omega)]
    rfl
  have ii : ∀ {v : V} {b : Bool}, v ≠ .non → b = true → (v = .non ↔ b = false) := fun hv hb => ⟨fun z => absurd z hv, fun z => by rw [hb] at z; cases z⟩
  refine ⟨_, rfl, _, rfl, h, r, cs, chs, i, es, rfl, hh, o, r1, fun H1 s1 hn => ?_, fun m1 H1 s1 hle _ h2 => ?_⟩
  · refine ⟨rfl, _, rfl, _, rfl, m, r, ds, dhs, i, es, rfl, hm.keep s1, o2, r2.keep s1, fun H2 s2 hn2 => ?_, fun m2 H2 s2 hle2 _ h22 => ?_⟩
    · exact ⟨rfl, rfl, last H1 s1 _ rfl _ ⟨fun _ => un hn, fun _ => rfl⟩ H2 s2 _ ⟨fun _ => un hn2, fun _ => rfl⟩⟩
    · exact ⟨rfl, rfl, last H1 s1 _ rfl _ ⟨fun _ => un hn, fun _ => rfl⟩ H2 s2 _ (ii (nn _) (ba hle2 h22))⟩
  · refine ⟨rfl, _, rfl, _, rfl, m, r, ds, dhs, i, es, rfl, hm.keep s1, o2, r2.keep s1, fun H2 s2 hn2 => ?_, fun m2 H2 s2 hle2 _ h22 => ?_⟩
    · exact ⟨rfl, rfl, last H1 s1 _ rfl _ (ii (nn _) (ba hle h2)) H2 s2 _ ⟨fun _ => un hn2, fun _ => rfl⟩⟩
    · exact ⟨rfl, rfl, last H1 s1 _ rfl _ (ii (nn _) (ba hle h2)) H2 s2 _ (ii (nn _) (ba hle2 h22))⟩
/-! members of a dict's items; columns by their names -/
theorem valV_mem {k : Key} {v : V} : ∀ {kvs : List (Key × V)}, valV kvs k = some v → (k, v) ∈ kvs
  | [], h => by cases h
  | kv :: kvs, h => by
    by_cases e : kv.1 = k
    · rw [valV_pos e] at h
      obtain rfl := Option.some.inj h
      rw [← e]
      exact List.mem_cons_self
    · rw [valV_neg e] at h
      exact List.mem_cons_of_mem _ (valV_mem h)
theorem name_uniq {cs : List Col} {c c' : Col} (nd : (cs.map (·.name)).Nodup) (h : c ∈ cs) (h' : c' ∈ cs) (e : c'.name = c.name) : c' = c := by
  have h1 := find_uniq nd h rfl
  have h2 := find_uniq nd h' e
  exact Option.some.inj (h2.symm.trans h1)

/-! is_read_unlike, of a stored row of both and any value -/
def readUnl (a b : Option (List (Key × V))) : V → Bool
  | .str n => match a, b with
    | some x, some y => match valV x (.inr n), valV y (.inr n) with
      | some u, some v => !decide (u = v)
      | _, _ => false
    | _, _ => false
  | _ => false
theorem row_val {cs : List Col} {kvs : List (Key × V)} (r : RowD cs kvs) {k : Key} {v : V} (h : valV kvs k = some v) : isVal v = true := by
  have hm := valV_mem h
  obtain ⟨j, hj⟩ := List.mem_iff_getElem?.mp hm
  have hl : j < kvs.length := (List.getElem?_eq_some_iff.mp hj).1
  have hc : cs[j]? = some (cs[j]'(by rw [← r.1]; exact hl)) := List.getElem?_eq_getElem _
  obtain ⟨w, h1, h2⟩ := r.2 j _ hc
  obtain ⟨_, e⟩ := Prod.mk.inj (Option.some.inj (hj.symm.trans h1))
  rw [e]
  cases w with
  | non => rfl
  | int i =>
    have h2 : (decide (0 ≤ i) && _) = true := h2
    exact (Bool.and_eq_true_iff.mp h2).1
  | _ => cases h2
theorem end_row {cs : List Col} {chs : List Ch} {i : Nat} {es : List (Int × V)} (o : HistOk cs chs) (hi : i ≤ chs.length) (f : FitE (atC cs (chs.take i)).1 es) {kvs : List (Key × V)} (h : endE cs chs i es = some kvs) : ∃ cl, RowD cl kvs := ⟨_, folTo_row o (rowE_row f) _ (by omega) _ h⟩
def sp_read_unlike (K : PySem.W.Frag) : Sp := fun vs H Q _ => ∃ (h m r : Addr) (cs ds : List Col) (chs dhs : List Ch) (i : Nat) (es : List (Int × V)) (x : V), vs = [.ref h, .ref m, .ref r, x] ∧ HistAt K H h cs chs ∧ HistAt K H m ds dhs ∧ HistOk cs chs ∧ HistOk ds dhs ∧ RowAt K H cs chs r i es ∧ RowAt K H ds dhs r i es ∧
  ((∃ n, x = .str n) ∨ ((∀ n, x ≠ .str n) ∧ ∀ H', Same H H' → noStr K H' x)) ∧ ∀ H', Same H H' → Q (.bl (readUnl (endE cs chs i es) (endE ds dhs i es) x)) H'
theorem ok_read_unlike (T : Tx K mg) : Callee P w K mg base CX0 8 "is_read_unlike" ["one", "other", "row", "name"] [] (sp_read_unlike K) := by
  obtain ⟨fdF, FF, _, ⟨dsF, vF, bF⟩, kF⟩ := ok_followed (P := P) (w := w) (base := base) T
  refine mkCallee (fd_is_read_unlike T) (mg_is_read_unlike T) sc_is_read_unlike (fun _ _ _ _ _ _ us hl => match us, hl with | [_, _, _, _], _ => rfl) (fun vs H Q E h => ?_) (fun cdv A outer s H vs Q E hr h => ?_)
  · obtain ⟨h, m, r, cs, ds, chs, dhs, i, es, x, rfl, _⟩ := h
    rfl
  obtain ⟨h, m, r, cs, ds, chs, dhs, i, es, x, rfl, hh, hm, o, o2, r1, r2, hx, k⟩ := h
  have nd := sc_is_read_unlike.nd
  have hu := hu_of hr
  refine ⟨_, (pss_cons (ps_set (i := 4) nd rfl (Or.inl rfl) (pe_call FF hr (by rfl) (mg_followed T) kF bF vF pass0 (pa_cons (pv 0) (pa_cons (pv 2) pa_nil))))
        (pss_cons (ps_set (i := 5) nd rfl (Or.inl rfl) (pe_call FF hr (by rfl) (mg_followed T) kF bF vF pass0 (pa_cons (pv 1) (pa_cons (pv 2) pa_nil))))
        (pss_cons (ps_if (PW.pt (pw_or (pt_cmpR op_isN (pv 4) pe_non (nomark _)) (pw_or (pt_cmpR op_isN (pv 5) pe_non (nomark _)) (pw_or1 (pt_not (pt_val (pe_callB call_isi (by rfl) (fr_isinstance T) (by decide +kernel) (pa_cons (pv 3) (pa_cons (pe_bltn (v := .ty "str") (by rfl) (fr_str T) (by decide +kernel) rfl) pa_nil))))))))) (pss_one (ps_ret pe_bl)) pss_nil)
        (pss_one (ps_ret (pe_and (pe_cmp (pc_din hu (pv 3) (pv 4)) (by rfl)) (pe_and (pe_cmp (pc_din hu (pv 3) (pv 5)) (by rfl)) (pe_one (pe_cmpR op_ne (pe_dget hu (pv 4) (pv 3) (fun _ _ => rfl)) (pe_dget hu (pv 5) (pv 3) (fun _ _ => rfl)) (nomark _)))))))))), ?_⟩
  have ed : ∀ n : Nat, (edOf n .non).toNat = n := fun n => by
    show ((n : Nat) : Int).toNat = n
    omega
  have eF : ∀ {cs : List Col} {chs : List Ch}, folTo cs chs i (rowE (atC cs (chs.take i)).1 es) ((edOf chs.length .non).toNat - i) = endE cs chs i es := fun {cs chs} => by
    rw [ed]
    rfl
  have xno : ∀ (H' : Hp), Same H H' → ∃ t b, TyX K H' x (.type t) ∧ kitB t "str" = some b ∧ ((b = true ∧ ∃ n, x = .str n) ∨ (b = false ∧ ∀ n, x ≠ .str n)) := by
    intro H' s'
    rcases hx with ⟨n, rfl⟩ | ⟨nx, hx⟩
    · exact ⟨_, true, .base (.str n), by decide +kernel, .inl ⟨rfl, n, rfl⟩⟩
    · obtain ⟨t, ty, hk⟩ := hx H' s'
      exact ⟨t, false, ty, hk, .inr ⟨rfl, nx⟩⟩
  have fF : ∀ (a b : Option (List (Key × V))), (∀ n, x ≠ .str n) → readUnl a b x = false := fun a b nx => by
    cases x with
    | str n => exact absurd rfl (nx n)
    | _ => rfl
  have no1 : ∀ b, readUnl none b x = false := fun b => by cases x <;> rfl
  have no2 : ∀ a, readUnl a none x = false := fun a => by cases x <;> first | rfl | (cases a <;> rfl)
  refine q_asgX ⟨_, rfl, _, rfl, h, r, cs, chs, i, es, .non, rfl, hh, o, r1, .inl rfl, by show (i : Int) ≤ ((chs.length : Nat) : Int); have := r1.le; omega, fun H1 s1 e1 => ?_, fun d1 k1 H1 s1 hd1 e1 => ?_⟩
  · dsimp only
    rw [eF] at e1
    refine q_asgX ⟨_, rfl, _, rfl, m, r, ds, dhs, i, es, .non, rfl, hm.keep s1, o2, r2.keep s1, .inl rfl, by show (i : Int) ≤ ((dhs.length : Nat) : Int); have := r2.le; omega, fun H2 s2 e2 => ?_, fun d2 k2 H2 s2 hd2 e2 => ?_⟩
    · have kk := k H2 (s1.trans s2)
      rw [e1, no1] at kk
      exact ⟨_, rfl, rfl, _, rfl, iteDT rfl kk⟩
    · have kk := k H2 (s1.trans s2)
      rw [e1, no1] at kk
      exact ⟨_, rfl, rfl, _, rfl, iteDT rfl kk⟩
  · dsimp only
    rw [eF] at e1
    refine q_asgX ⟨_, rfl, _, rfl, m, r, ds, dhs, i, es, .non, rfl, hm.keep s1, o2, r2.keep s1, .inl rfl, by show (i : Int) ≤ ((dhs.length : Nat) : Int); have := r2.le; omega, fun H2 s2 e2 => ?_, fun d2 k2 H2 s2 hd2 e2 => ?_⟩
    · rw [eF] at e2
      have kk := k H2 (s1.trans s2)
      rw [e2, no2] at kk
      exact ⟨_, rfl, rfl, _, rfl, iteD (fun z => by cases z) ⟨_, rfl, rfl, _, rfl, iteDT rfl kk⟩⟩
    · rw [eF] at e2
      have kk := k H2 (s1.trans s2)
      rw [e1, e2] at kk
      have hd1 := s2 _ _ hd1
      obtain ⟨t, b, ty, hk, hb⟩ := xno H2 (s1.trans s2)
      refine ⟨_, rfl, rfl, _, rfl, iteD (fun z => by cases z) ⟨_, rfl, rfl, _, rfl, iteD (fun z => by cases z) ⟨_, rfl, x, .ty "str", _, _, b, rfl, .ty "str", ty, kit_ty hk, _, rfl, ?_⟩⟩⟩
      rcases hb with ⟨rfl, n, rfl⟩ | ⟨rfl, nx⟩
      · refine iteF (nxt ?_)
        obtain ⟨cl1, q1⟩ := end_row o r1.le r1.fit e1
        obtain ⟨cl2, q2⟩ := end_row o2 r2.le r2.fit e2
        have g1 : DGet H2 d1 (.str n) (valV k1 (Sum.inr n)) := DGet.k (k := Sum.inr n) hd1
        have g2 : DGet H2 d2 (.str n) (valV k2 (Sum.inr n)) := DGet.k (k := Sum.inr n) hd2
        have kk : Q (.bl (match valV k1 (.inr n), valV k2 (.inr n) with
          | some u, some v => !decide (u = v)
          | _, _ => false)) H2 := kk
        refine ⟨_, rfl, _, rfl, d1, _, rfl, g1, _, rfl, ?_⟩
        cases v1 : valV k1 (Sum.inr n) with
        | none =>
          rw [v1] at kk
          exact iteF kk
        | some u =>
          rw [v1] at kk g1
          refine iteT ⟨_, rfl, _, rfl, d2, _, rfl, g2, _, rfl, ?_⟩
          cases v2 : valV k2 (Sum.inr n) with
          | none =>
            rw [v2] at kk
            exact iteF kk
          | some v =>
            rw [v2] at kk g2
            exact iteT ⟨_, rfl, _, rfl, d1, u, rfl, g1, _, rfl, _, rfl, d2, v, rfl, g2, vscal2 (row_val q1 v1) (row_val q2 v2), kk⟩
      · rw [fF _ _ nx] at kk
        exact iteT kk
/-! is_first_row, of any value -/
def sp_first_row (K : PySem.W.Frag) : Sp := fun vs H Q _ => ∃ (h : Addr) (cs : List Col) (chs : List Ch) (x : V) (b : Bool), vs = [.ref h, x] ∧ HistAt K H h cs chs ∧ chs.length ≤ 1000 ∧ (∀ u, (colsAt cs chs u).length ≤ 1000) ∧ StV K H cs chs x b ∧
  ((b = false ∧ ∀ H', Same H H' → Q (.bl false) H') ∨ ∃ (p : Addr) (i : Int) (v : V), x = .ref p ∧ SqT K H p [.int i, v] ∧ ∀ H', Same H H' → Q (.bl (b && decide (i = 0))) H')
theorem ok_first_row (T : Tx K mg) : Callee P w K mg base CX0 7 "is_first_row" ["history", "value"] [] (sp_first_row K) := by
  have C1 := ok_is_stored (P := P) (w := w) (base := base) T
  refine mkCallee (fd_is_first_row T) (mg_is_first_row T) sc_is_first_row (fun _ _ _ _ _ _ us hl => match us, hl with | [_, _], _ => rfl) (fun vs H Q E h => ?_) (fun cdv A outer s H vs Q E hr h => ?_)
  · obtain ⟨h, cs, chs, x, b, rfl, _⟩ := h
    rfl
  obtain ⟨h, cs, chs, x, b, rfl, hh, few, cf, st, k⟩ := h
  refine ⟨_, pss_one (ps_ret (pe_and (pcall C1 hr (pa_cons (pv 0) (pa_cons (pv 1) pa_nil))) (pe_one (pe_cmpR op_eq (pe_ix ix_tup (pv 1) pe_int (fun _ _ => rfl)) pe_int (nomark _))))), ?_⟩
  refine ⟨_, rfl, _, rfl, h, cs, chs, x, b, rfl, hh, few, cf, st, fun H1 s1 => ⟨_, rfl, ?_⟩⟩
  rcases k with ⟨rfl, k⟩ | ⟨p, i, v, rfl, hp, k⟩
  · exact iteF (k H1 s1)
  cases b with
  | false => exact iteF (k H1 s1)
  | true =>
    refine iteT ⟨_, rfl, p, _, 0, _, rfl, rfl, same_tup s1 hp, atI_nat (j := 0) rfl, rfl, ?_⟩
    have kk := k H1 s1
    have e : decide (V.int i = V.int 0) = decide (i = 0) := by
      rw [decide_eq_decide]
      exact ⟨fun z => V.int.inj z, fun z => by rw [z]⟩
    show Q (.bl (decide (V.int i = V.int 0))) H1
    rw [e]
    exact kk
/-! is_unlike, of what is known of a value -/
/-- what is known of a value that may show that two histories are not alike, and the answer about it -/
inductive UnV (K : PySem.W.Frag) (H : Hp) (cs : List Col) (chs dhs : List Ch) : V → Bool → Prop
  | no {x : V} {t : String} (ty : ∀ H', Same H H' → TyX K H' x (.type t)) (hk : kitB t "tuple" = some false) : UnV K H cs chs dhs x false
  | few {p : Addr} {xs : List V} (h : SqT K H p xs) (hl : xs.length < 2) : UnV K H cs chs dhs (.ref p) false
  | other {p : Addr} {z : Str} {y : V} {ys : List V} (h : SqT K H p (.str z :: y :: ys)) (n2 : ys.length = 0 → z ≠ "column" ∧ z ≠ "row") (n3 : ys.length = 1 → z ≠ "read") : UnV K H cs chs dhs (.ref p) false
  | col {p : Addr} {x : V} (h : SqT K H p [.str "column", x]) (hx : (∃ n, x = .str n) ∨ ((∀ n, x ≠ .str n) ∧ ∀ H', Same H H' → noStr K H' x)) : UnV K H cs chs dhs (.ref p) (colUnl (colsAt cs chs .non) (colsAt cs dhs .non) x)
  | row {p r : Addr} {es : List (Int × V)} (h : SqT K H p [.str "row", .ref r]) (r1 : RowAt K H cs chs r 0 es) (r2 : RowAt K H cs dhs r 0 es) : UnV K H cs chs dhs (.ref p) ((endE cs chs 0 es).isNone != (endE cs dhs 0 es).isNone)
  | rowN {p : Addr} {x : V} (h : SqT K H p [.str "row", x]) (hx : ∀ H', Same H H' → ∃ b, StV K H' cs chs x b ∧ (b = false ∨ ∃ (q : Addr) (i : Int) (v : V), x = .ref q ∧ SqT K H' q [.int i, v] ∧ i ≠ 0)) : UnV K H cs chs dhs (.ref p) false
  | read {p r : Addr} {x : V} {es : List (Int × V)} (h : SqT K H p [.str "read", .ref r, x]) (r1 : RowAt K H cs chs r 0 es) (r2 : RowAt K H cs dhs r 0 es) (hx : (∃ n, x = .str n) ∨ ((∀ n, x ≠ .str n) ∧ ∀ H', Same H H' → noStr K H' x)) : UnV K H cs chs dhs (.ref p) (readUnl (endE cs chs 0 es) (endE cs dhs 0 es) x)
theorem in_isV {t : Int} {v : V} (h : isIn t v = true) : isVal v = true := by
  cases v with
  | non => rfl
  | int i =>
    have h : (decide (0 ≤ i) && _) = true := h
    exact (Bool.and_eq_true_iff.mp h).1
  | _ => cases h
theorem word_no {z c : Str} (h : z ≠ c) : wordV (.str z) [.str c] = false := by
  show inV (.str z) [.str c] = false
  unfold inV
  rw [List.any_cons, List.any_nil, Bool.or_false]
  exact beq_eq_false_iff_ne.mpr fun e => h e.symm
theorem ty_tupU {K : PySem.W.Frag} {H : Hp} {a : Addr} {xs : List V} (h : SqT K H a xs) : TyX K H (.ref a) (.type "tuple") := by
  rcases h with (h | ⟨o, h⟩) | ⟨o, its, n, h, hc, _⟩
  · exact .base (.tup h)
  · exact .fTuple h
  · exact .kTuple h hc
def sp_is_unlike (K : PySem.W.Frag) : Sp := fun vs H Q _ => ∃ (h m : Addr) (cs : List Col) (chs dhs : List Ch) (x : V) (b : Bool), vs = [.ref h, .ref m, x] ∧ HistAt K H h cs chs ∧ HistAt K H m cs dhs ∧ HistOk cs chs ∧ HistOk cs dhs ∧ UnV K H cs chs dhs x b ∧ ∀ H', Same H H' → Q (.bl b) H'
theorem ok_is_unlike (T : Tx K mg) : Callee P w K mg base CX0 9 "is_unlike" ["one", "other", "value"] [] (sp_is_unlike K) := by
  have C1 := (ok_check_both (P := P) (w := w) (base := base) T).up (show 3 ≤ 8 by decide)
  have C2 := (ok_is_word (P := P) (w := w) (base := base) T).up (show 1 ≤ 8 by decide)
  have C3 := (ok_col_unlike (P := P) (w := w) (base := base) T).up (show 6 ≤ 8 by decide)
  have C4 := (ok_first_row (P := P) (w := w) (base := base) T).up (show 7 ≤ 8 by decide)
  have C5 := ok_row_unlike (P := P) (w := w) (base := base) T
  have C6 := ok_read_unlike (P := P) (w := w) (base := base) T
  refine mkCallee (fd_is_unlike T) (mg_is_unlike T) sc_is_unlike (fun _ _ _ _ _ _ us hl => match us, hl with | [_, _, _], _ => rfl) (fun vs H Q E h => ?_) (fun cdv A outer s H vs Q E hr h => ?_)
  · obtain ⟨h, m, cs, chs, dhs, x, b, rfl, _⟩ := h
    rfl
  obtain ⟨h, m, cs, chs, dhs, x, b, rfl, hh, hm, o, o2, hu, k⟩ := h
  have gl : mg "len" = none := fr_len T
  refine ⟨_, (pss_cons (ps_expr (pcall C1 hr (pa_cons (pv 0) (pa_cons (pv 1) pa_nil))))
        (pss_cons (ps_if (pt_not (pt_val (pe_callB call_isi (by rfl) (fr_isinstance T) (by decide +kernel) (pa_cons (pv 2) (pa_cons (pe_bltn (v := .ty "tuple") (by rfl) (fr_tuple T) (by decide +kernel) rfl) pa_nil))))) (pss_one (ps_ret pe_bl)) pss_nil)
        (pss_cons (ps_if (PW.pt (pw_and (pt_cmpR op_eq (pe_callB call_len (by rfl) gl PySem.boot_len (pa_cons (pv 2) pa_nil)) pe_int (nomark _)) (pw_and1 (pt_val (pcall C2 hr (pa_cons (pe_ix ix_tup (pv 2) pe_int (fun _ _ => rfl)) (pa_cons (pe_tup (pa_cons pe_str pa_nil)) pa_nil))))))) (pss_one (ps_ret (pcall C3 hr (pa_cons (pv 0) (pa_cons (pv 1) (pa_cons (pe_ix ix_tup (pv 2) pe_int (fun _ _ => rfl)) pa_nil)))))) pss_nil)
        (pss_cons (ps_if (PW.pt (pw_and (pt_cmpR op_eq (pe_callB call_len (by rfl) gl PySem.boot_len (pa_cons (pv 2) pa_nil)) pe_int (nomark _)) (pw_and1 (pt_val (pcall C2 hr (pa_cons (pe_ix ix_tup (pv 2) pe_int (fun _ _ => rfl)) (pa_cons (pe_tup (pa_cons pe_str pa_nil)) pa_nil))))))) (pss_one (ps_ret (pe_and (pcall C4 hr (pa_cons (pv 0) (pa_cons (pe_ix ix_tup (pv 2) pe_int (fun _ _ => rfl)) pa_nil))) (pe_one (pcall C5 hr (pa_cons (pv 0) (pa_cons (pv 1) (pa_cons (pe_ix ix_tup (pv 2) pe_int (fun _ _ => rfl)) pa_nil)))))))) pss_nil)
        (pss_cons (ps_if (PW.pt (pw_and (pt_cmpR op_eq (pe_callB call_len (by rfl) gl PySem.boot_len (pa_cons (pv 2) pa_nil)) pe_int (nomark _)) (pw_and1 (pt_val (pcall C2 hr (pa_cons (pe_ix ix_tup (pv 2) pe_int (fun _ _ => rfl)) (pa_cons (pe_tup (pa_cons pe_str pa_nil)) pa_nil))))))) (pss_one (ps_ret (pe_and (pcall C4 hr (pa_cons (pv 0) (pa_cons (pe_ix ix_tup (pv 2) pe_int (fun _ _ => rfl)) pa_nil))) (pe_one (pcall C6 hr (pa_cons (pv 0) (pa_cons (pv 1) (pa_cons (pe_ix ix_tup (pv 2) pe_int (fun _ _ => rfl)) (pa_cons (pe_ix ix_tup (pv 2) pe_int (fun _ _ => rfl)) pa_nil))))))))) pss_nil)
        (pss_one (ps_ret pe_bl))))))), ?_⟩
  have hv : ∀ {ds : List Ch}, HistOk cs ds → ∀ c ∈ colsAt cs ds .non, isVal c.dflt = true := fun {ds} q c hc => by
    have g := (q.f.good q.g ds.length (Nat.le_refl _)).ok c (by
      have e : colsAt cs ds .non = (atC cs (ds.take ds.length)).1 := by
        unfold colsAt
        show (atC cs (ds.take ((ds.length : Nat) : Int).toNat)).1 = _
        rw [Int.toNat_natCast]
      rw [e] at hc
      exact hc)
    exact in_isV g.1.df
  have hv0 : ∀ c ∈ cs, isVal c.dflt = true := fun c hc => by
    exact in_isV (o.g.ok c hc).1.df
  have few := o.few
  have few2 := o2.few
  refine ⟨_, rfl, _, rfl, h, m, cs, chs, dhs, rfl, hh, hm, hv0, fun H1 s1 => ?_⟩
  have hh1 := hh.keep s1
  have hm1 := hm.keep s1
  have lne : ∀ {n : Nat} {i : Int}, ¬ (n : Int) = i → ¬ V.int (n : Int) = V.int i := fun h z => h (V.int.inj z)
  cases hu with
  | no ty hk => exact ⟨_, rfl, _, .ty "tuple", _, _, false, rfl, .ty "tuple", ty H1 s1, kit_ty hk, _, rfl, iteT (k H1 s1)⟩
  | few hp hl =>
    have hp1 := same_tup s1 hp
    refine ⟨_, rfl, _, .ty "tuple", _, _, true, rfl, .ty "tuple", ty_tupU hp1, kit_ty (by decide +kernel), _, rfl, iteF (nxt ?_)⟩
    refine ⟨_, rfl, _, _, rfl, .inr ⟨_, hp1, rfl⟩, rfl, _, rfl, iteD (nei (by omega)) (nxt ?_)⟩
    refine ⟨_, rfl, _, _, rfl, .inr ⟨_, hp1, rfl⟩, rfl, _, rfl, iteD (nei (by omega)) (nxt ?_)⟩
    exact ⟨_, rfl, _, _, rfl, .inr ⟨_, hp1, rfl⟩, rfl, _, rfl, iteD (nei (by omega)) (nxt (k H1 s1))⟩
  | @col p x hp hx =>
    have hp1 := same_tup s1 hp
    refine ⟨_, rfl, _, .ty "tuple", _, _, true, rfl, .ty "tuple", ty_tupU hp1, kit_ty (by decide +kernel), _, rfl, iteF (nxt ?_)⟩
    refine ⟨_, rfl, _, _, rfl, .inr ⟨_, hp1, rfl⟩, rfl, _, rfl, iteDT rfl ⟨_, rfl, _, _, 0, _, rfl, rfl, hp1, atI_nat (j := 0) rfl, by show 1 ≤ sizeLine; decide, fun t nt => ⟨.str "column", _, t, _, rfl, .base (.str "column"), sqT_of upd_same, rfl, _, rfl, ?_⟩⟩⟩
    rw [show wordV (.str "column") [.str "column"] = true by decide +kernel]
    have sn := same_new (o := .tup [V.str "column"]) nt
    have s2 := s1.trans sn
    refine iteT ⟨_, rfl, _, rfl, _, rfl, p, _, 1, _, rfl, rfl, same_tup sn hp1, atI_nat (j := 1) rfl, h, m, cs, cs, chs, dhs, x, rfl, hh.keep s2, hm.keep s2, by omega, by omega, hv o, hv o2, ?_, fun H' s' => k H' (s2.trans s')⟩
    exact hx.imp_right fun ⟨a, b⟩ => ⟨a, fun H' s' => b H' (s2.trans s')⟩
  | @row p r es hp r1 r2 =>
    have hp1 := same_tup s1 hp
    refine ⟨_, rfl, _, .ty "tuple", _, _, true, rfl, .ty "tuple", ty_tupU hp1, kit_ty (by decide +kernel), _, rfl, iteF (nxt ?_)⟩
    refine ⟨_, rfl, _, _, rfl, .inr ⟨_, hp1, rfl⟩, rfl, _, rfl, iteDT rfl ⟨_, rfl, _, _, 0, _, rfl, rfl, hp1, atI_nat (j := 0) rfl, by show 1 ≤ sizeLine; decide, fun t nt => ⟨.str "row", _, t, _, rfl, .base (.str "row"), sqT_of upd_same, rfl, _, rfl, ?_⟩⟩⟩
    rw [show wordV (.str "row") [.str "column"] = false by decide +kernel]
    have sn := same_new (o := .tup [V.str "column"]) nt
    have s2 := s1.trans sn
    have hp2 := same_tup sn hp1
    generalize upd H1 t (.tup [V.str "column"]) = H2 at sn s2 hp2 ⊢
    clear sn nt
    refine iteF (nxt ?_)
    refine ⟨_, rfl, _, _, rfl, .inr ⟨_, hp2, rfl⟩, rfl, _, rfl, iteDT rfl ⟨_, rfl, _, _, 0, _, rfl, rfl, hp2, atI_nat (j := 0) rfl, by show 1 ≤ sizeLine; decide, fun t nt => ⟨.str "row", _, t, _, rfl, .base (.str "row"), sqT_of upd_same, rfl, _, rfl, ?_⟩⟩⟩
    rw [show wordV (.str "row") [.str "row"] = true by decide +kernel]
    have sn2 := same_new (o := .tup [V.str "row"]) nt
    have s3 := s2.trans sn2
    have hp3 := same_tup sn2 hp2
    generalize upd H2 t (.tup [V.str "row"]) = H3 at sn2 s3 hp3 ⊢
    obtain ⟨q, as, w1, w2, w3⟩ := id (r1.keep s3).st
    refine iteT ⟨_, rfl, _, rfl, p, _, 1, _, rfl, rfl, hp3, atI_nat (j := 1) rfl, h, cs, chs, .ref r, true, rfl, hh.keep s3, by omega, cols_few o, (r1.keep s3).ok, .inr ⟨r, 0, _, rfl, w1, fun H4 s4 => ?_⟩⟩
    refine ⟨_, rfl, iteT ⟨_, rfl, _, rfl, _, rfl, p, _, 1, _, rfl, rfl, same_tup s4 hp3, atI_nat (j := 1) rfl, h, m, r, cs, cs, chs, dhs, 0, es, rfl, hh.keep (s3.trans s4), hm.keep (s3.trans s4), o, o2, r1.keep (s3.trans s4), r2.keep (s3.trans s4), fun H5 s5 => k H5 ((s3.trans s4).trans s5)⟩⟩
  | @rowN p x hp hx =>
    have hp1 := same_tup s1 hp
    refine ⟨_, rfl, _, .ty "tuple", _, _, true, rfl, .ty "tuple", ty_tupU hp1, kit_ty (by decide +kernel), _, rfl, iteF (nxt ?_)⟩
    refine ⟨_, rfl, _, _, rfl, .inr ⟨_, hp1, rfl⟩, rfl, _, rfl, iteDT rfl ⟨_, rfl, _, _, 0, _, rfl, rfl, hp1, atI_nat (j := 0) rfl, by show 1 ≤ sizeLine; decide, fun t nt => ⟨.str "row", _, t, _, rfl, .base (.str "row"), sqT_of upd_same, rfl, _, rfl, ?_⟩⟩⟩
    rw [show wordV (.str "row") [.str "column"] = false by decide +kernel]
    have sn := same_new (o := .tup [V.str "column"]) nt
    have s2 := s1.trans sn
    have hp2 := same_tup sn hp1
    generalize upd H1 t (.tup [V.str "column"]) = H2 at sn s2 hp2 ⊢
    clear sn nt
    refine iteF (nxt ?_)
    refine ⟨_, rfl, _, _, rfl, .inr ⟨_, hp2, rfl⟩, rfl, _, rfl, iteDT rfl ⟨_, rfl, _, _, 0, _, rfl, rfl, hp2, atI_nat (j := 0) rfl, by show 1 ≤ sizeLine; decide, fun t nt => ⟨.str "row", _, t, _, rfl, .base (.str "row"), sqT_of upd_same, rfl, _, rfl, ?_⟩⟩⟩
    rw [show wordV (.str "row") [.str "row"] = true by decide +kernel]
    have sn2 := same_new (o := .tup [V.str "row"]) nt
    have s3 := s2.trans sn2
    have hp3 := same_tup sn2 hp2
    generalize upd H2 t (.tup [V.str "row"]) = H3 at sn2 s3 hp3 ⊢
    obtain ⟨b, st, hb⟩ := hx H3 s3
    refine iteT ⟨_, rfl, _, rfl, p, _, 1, _, rfl, rfl, hp3, atI_nat (j := 1) rfl, h, cs, chs, x, b, rfl, hh.keep s3, by omega, cols_few o, st, ?_⟩
    rcases hb with rfl | ⟨q, i, v, rfl, hq, hi⟩
    · exact .inl ⟨rfl, fun H4 s4 => ⟨_, rfl, iteF (k H4 (s3.trans s4))⟩⟩
    · refine .inr ⟨q, i, v, rfl, hq, fun H4 s4 => ⟨_, rfl, ?_⟩⟩
      rw [decide_eq_false hi, Bool.and_false]
      exact iteF (k H4 (s3.trans s4))
  | @read p r x es hp r1 r2 hx =>
    have hp1 := same_tup s1 hp
    refine ⟨_, rfl, _, .ty "tuple", _, _, true, rfl, .ty "tuple", ty_tupU hp1, kit_ty (by decide +kernel), _, rfl, iteF (nxt ?_)⟩
    refine ⟨_, rfl, _, _, rfl, .inr ⟨_, hp1, rfl⟩, rfl, _, rfl, iteD (lne (by simp only [List.length_cons, List.length_nil]; decide)) (nxt ?_)⟩
    refine ⟨_, rfl, _, _, rfl, .inr ⟨_, hp1, rfl⟩, rfl, _, rfl, iteD (lne (by simp only [List.length_cons, List.length_nil]; decide)) (nxt ?_)⟩
    refine ⟨_, rfl, _, _, rfl, .inr ⟨_, hp1, rfl⟩, rfl, _, rfl, iteDT rfl ⟨_, rfl, _, _, 0, _, rfl, rfl, hp1, atI_nat (j := 0) rfl, by show 1 ≤ sizeLine; decide, fun t nt => ⟨.str "read", _, t, _, rfl, .base (.str "read"), sqT_of upd_same, rfl, _, rfl, ?_⟩⟩⟩
    rw [show wordV (.str "read") [.str "read"] = true by decide +kernel]
    have sn := same_new (o := .tup [V.str "read"]) nt
    have s3 := s1.trans sn
    have hp3 := same_tup sn hp1
    generalize upd H1 t (.tup [V.str "read"]) = H3 at sn s3 hp3 ⊢
    obtain ⟨q, as, w1, w2, w3⟩ := id (r1.keep s3).st
    refine iteT ⟨_, rfl, _, rfl, p, _, 1, _, rfl, rfl, hp3, atI_nat (j := 1) rfl, h, cs, chs, .ref r, true, rfl, hh.keep s3, by omega, cols_few o, (r1.keep s3).ok, .inr ⟨r, 0, _, rfl, w1, fun H4 s4 => ?_⟩⟩
    refine ⟨_, rfl, iteT ⟨_, rfl, _, rfl, _, rfl, p, _, 1, _, rfl, rfl, same_tup s4 hp3, atI_nat (j := 1) rfl, _, rfl, p, _, 2, _, rfl, rfl, same_tup s4 hp3, atI_nat (j := 2) rfl, h, m, r, cs, cs, chs, dhs, 0, es, x, rfl, hh.keep (s3.trans s4), hm.keep (s3.trans s4), o, o2, r1.keep (s3.trans s4), r2.keep (s3.trans s4), ?_, fun H5 s5 => k H5 ((s3.trans s4).trans s5)⟩⟩
    exact hx.imp_right fun ⟨a, b⟩ => ⟨a, fun H' s' => b H' ((s3.trans s4).trans s')⟩
  | @other p z y ys hp n2 n3 =>
    have hp1 := same_tup s1 hp
    refine ⟨_, rfl, _, .ty "tuple", _, _, true, rfl, .ty "tuple", ty_tupU hp1, kit_ty (by decide +kernel), _, rfl, iteF (nxt ?_)⟩
    match ys, hp1, n2, n3 with
    | [], hp1, n2, _ =>
      refine ⟨_, rfl, _, _, rfl, .inr ⟨_, hp1, rfl⟩, rfl, _, rfl, iteDT rfl ⟨_, rfl, _, _, 0, _, rfl, rfl, hp1, atI_nat (j := 0) rfl, by show 1 ≤ sizeLine; decide, fun t nt => ⟨.str z, _, t, _, rfl, .base (.str z), sqT_of upd_same, rfl, _, rfl, ?_⟩⟩⟩
      rw [word_no (n2 rfl).1]
      have sn := same_new (o := .tup [V.str "column"]) nt
      have s2 := s1.trans sn
      have hp2 := same_tup sn hp1
      generalize upd H1 t (.tup [V.str "column"]) = H2 at sn s2 hp2 ⊢
      clear sn nt
      refine iteF (nxt ?_)
      refine ⟨_, rfl, _, _, rfl, .inr ⟨_, hp2, rfl⟩, rfl, _, rfl, iteDT rfl ⟨_, rfl, _, _, 0, _, rfl, rfl, hp2, atI_nat (j := 0) rfl, by show 1 ≤ sizeLine; decide, fun t nt => ⟨.str z, _, t, _, rfl, .base (.str z), sqT_of upd_same, rfl, _, rfl, ?_⟩⟩⟩
      rw [word_no (n2 rfl).2]
      have sn2 := same_new (o := .tup [V.str "row"]) nt
      have s3 := s2.trans sn2
      have hp3 := same_tup sn2 hp2
      generalize upd H2 t (.tup [V.str "row"]) = H3 at sn2 s3 hp3 ⊢
      refine iteF (nxt ?_)
      exact ⟨_, rfl, _, _, rfl, .inr ⟨_, hp3, rfl⟩, rfl, _, rfl, iteD (lne (by simp only [List.length_cons, List.length_nil]; decide)) (nxt (k H3 s3))⟩
    | [w], hp1, _, n3 =>
      refine ⟨_, rfl, _, _, rfl, .inr ⟨_, hp1, rfl⟩, rfl, _, rfl, iteD (lne (by simp only [List.length_cons, List.length_nil]; decide)) (nxt ?_)⟩
      refine ⟨_, rfl, _, _, rfl, .inr ⟨_, hp1, rfl⟩, rfl, _, rfl, iteD (lne (by simp only [List.length_cons, List.length_nil]; decide)) (nxt ?_)⟩
      refine ⟨_, rfl, _, _, rfl, .inr ⟨_, hp1, rfl⟩, rfl, _, rfl, iteDT rfl ⟨_, rfl, _, _, 0, _, rfl, rfl, hp1, atI_nat (j := 0) rfl, by show 1 ≤ sizeLine; decide, fun t nt => ⟨.str z, _, t, _, rfl, .base (.str z), sqT_of upd_same, rfl, _, rfl, ?_⟩⟩⟩
      rw [word_no (n3 rfl)]
      exact iteF (nxt (k _ (s1.trans (same_new nt))))
    | w :: u :: ys, hp1, _, _ =>
      refine ⟨_, rfl, _, _, rfl, .inr ⟨_, hp1, rfl⟩, rfl, _, rfl, iteD (lne (by simp only [List.length_cons]; omega)) (nxt ?_)⟩
      refine ⟨_, rfl, _, _, rfl, .inr ⟨_, hp1, rfl⟩, rfl, _, rfl, iteD (lne (by simp only [List.length_cons]; omega)) (nxt ?_)⟩
      exact ⟨_, rfl, _, _, rfl, .inr ⟨_, hp1, rfl⟩, rfl, _, rfl, iteD (lne (by simp only [List.length_cons]; omega)) (nxt (k H1 s1))⟩
/-! a block, then the rest: what holds between them is named -/
theorem s_seq {t U : TS} {D : Ends} {σ : L2.St} {H : Hp} (P : L2.St → Hp → Prop) (k : ∀ σ' H', P σ' H' → U D σ' H') (h : (∀ σ' H', P σ' H' → U D σ' H') → tSeq t U D σ H) : tSeq t U D σ H := h k
theorem pl_rop {σ : L2.St} {H : Hp} {D : Ends} {ta tb : TE} {r : V → V → Hp → VK → Prop} (h : ta σ H fun x H1 => tb σ H1 fun y H2 => r x y H2 D.rt) : tRet (tOp r ta tb) D σ H := h
theorem pl_ifb {σ : L2.St} {H : Hp} {D : Ends} {X : TE} {r : List V → Hp → VK → Prop} {t u U : TS} (h : X σ H fun v H1 => r [v] H1 fun z H2 => ∃ b, z = .bl b ∧ (if b = true then t { D with nx := U D } σ H2 else u { D with nx := U D } σ H2)) : tSeq (tIfS (tB (tCB r (tCons X tNil))) t u) U D σ H := h

/-! _law_pool -/
def sp_pool (K : PySem.W.Frag) : Sp := fun vs H Q _ => ∃ (a : Addr) (ns : List Int) (k : Int), vs = [.ref a, .int k] ∧ SqL K H a (ns.map V.int) ∧ 0 ≤ k ∧ k ≤ 1000 ∧
  ∀ (p : Addr) (H' : Hp) (z0 z1 : Int), H p = none → Same H H' → H' p = some (.lst [.int z0, .int z1]) → Q (.ref p) H'
theorem ok_pool (T : Tx K mg) : Callee P w K mg base CX0 1 "_law_pool" ["_law_script", "_law_k"] [] (sp_pool K) := by
  refine mkCallee (fd__law_pool T) (mg__law_pool T) sc__law_pool (fun _ _ _ _ _ _ us hl => match us, hl with | [_, _], _ => rfl) (fun vs H Q E h => ?_) (fun cdv A outer s H vs Q E hr h => ?_)
  · obtain ⟨a, ns, k, rfl, _⟩ := h
    rfl
  · obtain ⟨a, ns, k, rfl, hs, k0, k1, kk⟩ := h
    have nd := sc__law_pool.nd
    have gi : mg "int" = none := fr_int T
    refine ⟨_, pss_cons (ps_set (i := 2) nd rfl (Or.inl rfl) (pe_ifExp (pt_cmpR op_lt (pv 1) (pe_callB call_len (by rfl) (fr_len T) PySem.boot_len (pa_cons (pv 0) pa_nil)) (nomark _)) (pe_ix ix_list (pv 0) (pv 1) (fun _ _ => rfl))
        (pe_op op_add (pe_op op_mul pe_int (pe_callB (cr_sum rfl) (by rfl) (fr_sum T) (by decide +kernel) (pa_cons (pe_slice sl_list (pv 0) po_none (po_some pe_int)) pa_nil))) (pv 1))))
      (pss_cons (ps_set (i := 3) nd rfl (Or.inl rfl) (pe_callB call_abs (by rfl) (fr_abs T) (by decide +kernel) (pa_cons (pv 2) pa_nil)))
      (pss_cons (ps_set (i := 4) nd rfl (Or.inl rfl) (pe_op op_add (pe_op op_add (pe_op op_add (pe_op op_modN (pe_callTy call_int1 (by rfl) gi (by decide +kernel) (pa_cons (pv 3) pa_nil)) pe_int) (pe_op op_mul (pe_op op_mul pe_int (pv 1)) (pv 1))) (pe_op op_mul pe_int (pv 1))) pe_int))
      (pss_cons (ps_set (i := 4) nd rfl (Or.inl rfl) (pe_op op_modN (pe_callTy call_int1 (by rfl) gi (by decide +kernel) (pa_cons (pe_op op_mul (pv 4) pe_int) pa_nil)) pe_int))
      (pss_one (ps_ret (pe_lst (pa_cons (pe_op op_mul (pv 3) (pe_callTy call_int1 (by rfl) gi (by decide +kernel) (pa_cons (pe_cmpR op_ge (pv 3) (pe_op op_pow pe_int pe_int) (nomark _)) pa_nil)))
        (pa_cons (pe_op op_modN (pe_callTy call_int1 (by rfl) gi (by decide +kernel) (pa_cons (pe_op op_mul (pv 4) (pv 4)) pa_nil)) pe_int) pa_nil)))))))), ?_⟩
    refine s_seq (fun σ' H' => ∃ z : Int, σ' = [some (.ref a), some (.int k), some (.int z), none, none] ∧ Same H H') ?_ ?_
    · rintro σ' H' ⟨z, rfl, s'⟩
      refine q_asgX ⟨_, rfl, z, rfl, ?_⟩
      generalize (if z < 0 then -z else z) = n
      refine q_asgX ⟨_, rfl, .inl ⟨_, rfl, _, _, rfl, rfl, (show (2147483629 : Int) ≠ 0 by decide), _, rfl, _, _, rfl, rfl, .inl ⟨by decide, by decide⟩, _, rfl, _, _, rfl, rfl, .inr ⟨by omega, by omega⟩, _, _, rfl, rfl, _, rfl, _, _, rfl, rfl, .inl ⟨by decide, by decide⟩, _, _, rfl, rfl, _, _, rfl, rfl, ?_⟩⟩
      refine q_asgX ⟨_, rfl, _, _, rfl, rfl, .inr ⟨by decide, by decide⟩, .inl ⟨_, rfl, _, _, rfl, rfl, (show (2147483647 : Int) ≠ 0 by decide), ?_⟩⟩
      have m0 := mod_lo (i := (n.fmod 2147483629 + 7919 * k * k + 31 * k + 17) * 48271) (j := 2147483647) (by decide)
      have m1 := mod_hi (i := (n.fmod 2147483629 + 7919 * k * k + 31 * k + 17) * 48271) (j := 2147483647) (by decide)
      refine ⟨_, rfl, _, rfl, _, _, rfl, rfl, ⟨by decide, by decide, by decide⟩, _, _, rfl, rfl, .inr ⟨_, rfl, _, _, rfl, rfl, ?_, _, rfl, _, rfl, _, _, rfl, rfl, .inl ⟨by omega, by omega⟩, .inl ⟨_, rfl, _, _, rfl, rfl, (show (2147483629 : Int) ≠ 0 by decide), (by show 2 ≤ sizeLine; decide), fun p hp => ?_⟩⟩⟩
      · refine .inr ?_
        split
        · exact ⟨by decide, by decide⟩
        · exact ⟨by decide, by decide⟩
      · exact kk p _ _ _ (s'.free hp) (s'.trans (same_new hp)) upd_same
    · intro next
      refine q_asgX ⟨_, rfl, _, rfl, _, (ns.map V.int).length, rfl, .inl ⟨_, hs, rfl⟩, _, _, rfl, rfl, _, rfl, ?_⟩
      by_cases hk : k < ((ns.map V.int).length : Int)
      · rw [decide_eq_true hk]
        obtain ⟨j, rfl⟩ : ∃ j : Nat, k = (j : Int) := ⟨k.toNat, by omega⟩
        have hj : j < ns.length := by
          rw [List.length_map] at hk
          omega
        have hx : (ns.map V.int)[j]? = some (V.int ns[j]) := by
          rw [List.getElem?_map, List.getElem?_eq_getElem hj]
          rfl
        exact iteT ⟨_, rfl, _, rfl, a, _, _, _, rfl, rfl, hs, at_of (j := j) rfl hx, next _ _ ⟨_, rfl, Same.refl _⟩⟩
      · rw [decide_eq_false hk]
        refine iteF ⟨_, rfl, 63, rfl, a, _, rfl, hs, fun q nq => ⟨q, (cutV (ns.map V.int) none (some 63)).map (fun v => match v with | .int i => i | _ => 0), rfl, sqL_of ?_, _, _, rfl, rfl, .inl ⟨by decide, by decide⟩, _, rfl, _, _, rfl, rfl, next _ _ ⟨_, rfl, same_new nq⟩⟩⟩
        rw [upd_same]
        congr 2
        unfold cutV
        rw [← List.map_drop, ← List.map_take, List.map_map, List.map_map]
        rfl
/-! _law_draw -/
def sp_draw : Sp := fun vs H Q _ => ∃ (a : Addr) (z0 z1 m : Int), vs = [.ref a, .int m] ∧ H a = some (.lst [.int z0, .int z1]) ∧ 0 < m ∧ m < 1073741824 ∧
  ∀ r y0 y1 : Int, 0 ≤ r → r < m → Q (.int r) (upd H a (.lst [.int y0, .int y1]))
theorem ok_draw (T : Tx K mg) : Callee P w K mg base CX0 1 "_law_draw" ["_law_pool_here", "_law_many"] [] sp_draw := by
  refine mkCallee (fd__law_draw T) (mg__law_draw T) sc__law_draw (fun _ _ _ _ _ _ us hl => match us, hl with | [_, _], _ => rfl) (fun vs H Q E h => ?_) (fun cdv A outer s H vs Q E hr h => ?_)
  · obtain ⟨a, z0, z1, m, rfl, _⟩ := h
    rfl
  · obtain ⟨a, z0, z1, m, rfl, ha, hm, hm2, k⟩ := h
    have gi : mg "int" = none := fr_int T
    refine ⟨_, pss_cons (ps_if (pt_cmpR op_gt (pe_ix ix_list (pv 0) pe_int (fun _ _ => rfl)) pe_int (nomark _))
        (pss_cons (ps_set (i := 2) sc__law_draw.nd rfl (Or.inl rfl) (pe_op op_modN (pe_callTy call_int1 (by rfl) gi (by decide +kernel) (pa_cons (pe_ix ix_list (pv 0) pe_int (fun _ _ => rfl)) pa_nil)) (pv 1)))
        (pss_cons (ps_asg (pe_op op_fdivN (pe_ix ix_list (pv 0) pe_int (fun _ _ => rfl)) (pv 1)) (pg_sub (pv 0) pe_int set_list))
        (pss_one (ps_ret (pv 2))))) pss_nil)
      (pss_cons (ps_asg (pe_op op_modN (pe_callTy call_int1 (by rfl) gi (by decide +kernel) (pa_cons (pe_op op_add (pe_op op_mul (pe_ix ix_list (pv 0) pe_int (fun _ _ => rfl)) pe_int) pe_int) pa_nil)) pe_int) (pg_sub (pv 0) pe_int set_list))
      (pss_one (ps_ret (pe_op op_modN (pe_callTy call_int1 (by rfl) gi (by decide +kernel) (pa_cons (pe_op op_fdivN (pe_op op_modN (pe_callTy call_int1 (by rfl) gi (by decide +kernel)
        (pa_cons (pe_op op_mul (pe_ix ix_list (pv 0) pe_int (fun _ _ => rfl)) (pe_ix ix_list (pv 0) pe_int (fun _ _ => rfl))) pa_nil)) pe_int) pe_int) pa_nil)) (pv 1))))), ?_⟩
    have i0 : atI [V.int z0, V.int z1] 0 = some (V.int z0) := rfl
    have i1 : atI [V.int z0, V.int z1] 1 = some (V.int z1) := rfl
    refine ⟨_, rfl, a, _, _, _, rfl, rfl, sqL_of ha, i0, _, _, rfl, rfl, _, rfl, ?_⟩
    by_cases hz : 0 < z0
    · rw [decide_eq_true hz]
      refine iteT ⟨_, rfl, a, _, _, _, rfl, rfl, sqL_of ha, i0, .inl ⟨_, rfl, _, rfl, _, _, rfl, rfl, (by omega), ?_⟩⟩
      refine ⟨_, rfl, a, _, _, _, rfl, rfl, sqL_of ha, i0, _, rfl, _, _, rfl, rfl, ⟨by omega, by omega⟩, _, rfl, a, _, 0, 0, rfl, rfl, ha, rfl, ?_⟩
      exact ⟨_, rfl, k _ _ _ (mod_lo hm) (mod_hi hm)⟩
    · rw [decide_eq_false hz]
      refine iteF ?_
      refine ⟨_, rfl, a, _, _, _, rfl, rfl, sqL_of ha, i1, _, _, rfl, rfl, .inr ⟨by decide, by decide⟩, _, _, rfl, rfl, .inl ⟨_, rfl, _, _, rfl, rfl, (show (2147483647 : Int) ≠ 0 by decide), ?_⟩⟩
      refine ⟨_, rfl, a, _, 1, 1, rfl, rfl, ha, rfl, ?_⟩
      have hy0 : 0 ≤ (z1 * 48271 + 11).fmod 2147483647 := mod_lo (by decide)
      have hy1 : (z1 * 48271 + 11).fmod 2147483647 < 2147483647 := mod_hi (by decide)
      have u1 : upd H a (.lst ([V.int z0, V.int z1].set 1 (.int ((z1 * 48271 + 11).fmod 2147483647)))) a = some (.lst [.int z0, .int ((z1 * 48271 + 11).fmod 2147483647)]) := upd_same
      have j1 : atI [V.int z0, V.int ((z1 * 48271 + 11).fmod 2147483647)] 1 = some (V.int ((z1 * 48271 + 11).fmod 2147483647)) := rfl
      refine ⟨_, rfl, a, _, _, _, rfl, rfl, sqL_of u1, j1, _, rfl, a, _, _, _, rfl, rfl, sqL_of u1, j1, _, _, rfl, rfl, .inl ⟨by omega, by omega⟩, .inl ⟨_, rfl, _, _, rfl, rfl, (show (2147483629 : Int) ≠ 0 by decide), _, _, rfl, rfl, ⟨by decide, by decide⟩, .inl ⟨_, rfl, _, rfl, _, _, rfl, rfl, (by omega), ?_⟩⟩⟩
      exact k _ _ _ (mod_lo hm) (mod_hi hm)
/-! _law_pick -/
def sp_pick : Sp := fun vs H Q _ => ∃ (a b : Addr) (z0 z1 : Int) (xs : List V), vs = [.ref a, .ref b] ∧ H a = some (.lst [.int z0, .int z1]) ∧ H b = some (.lst xs) ∧ b ≠ a ∧ 0 < xs.length ∧ xs.length < 1000000 ∧
  ∀ (x : V) (y0 y1 : Int), x ∈ xs → Q x (upd H a (.lst [.int y0, .int y1]))
theorem ok_pick (T : Tx K mg) : Callee P w K mg base CX0 2 "_law_pick" ["_law_pool_here", "_law_row"] [] sp_pick := by
  have C1 := ok_draw (P := P) (w := w) (base := base) T
  refine mkCallee (fd__law_pick T) (mg__law_pick T) sc__law_pick (fun _ _ _ _ _ _ us hl => match us, hl with | [_, _], _ => rfl) (fun vs H Q E h => ?_) (fun cdv A outer s H vs Q E hr h => ?_)
  · obtain ⟨a, b, z0, z1, xs, rfl, _⟩ := h
    rfl
  · obtain ⟨a, b, z0, z1, xs, rfl, ha, hb, nb, h0, h1, k⟩ := h
    have gl : mg "len" = none := fr_len T
    refine ⟨_, pss_one (ps_ret (pe_ix ix_list (pv 1) (pcall C1 hr (pa_cons (pv 0) (pa_cons (pe_callB call_len_seq (by rfl) gl PySem.boot_len (pa_cons (pv 1) pa_nil)) pa_nil))) (fun _ _ => rfl))), ?_⟩
    refine ⟨_, rfl, _, rfl, _, rfl, b, xs, rfl, .inl (sqL_of hb), a, z0, z1, _, rfl, ha, (by omega), (by omega), fun r y0 y1 hr0 hr1 => ?_⟩
    obtain ⟨j, rfl⟩ : ∃ j : Nat, r = (j : Int) := ⟨r.toNat, by omega⟩
    have hj : j < xs.length := by omega
    refine ⟨b, xs, _, xs[j], rfl, rfl, sqL_of (by rw [upd_ne nb]; exact hb), at_of (j := j) rfl (List.getElem?_eq_getElem hj), ?_⟩
    exact k _ _ _ (List.getElem_mem hj)
/-! _law_names: nine names -/
def signsL : Str := "abcdefghijklmnopqrstuvwxyz"
def endsL : List (Str × Str) := [("", ""), ("", "q"), ("ab", ""), ("abcdefg", ""), ("", "abcdefg")]
def sgnL (i : Nat) : Nat := signsL.cps.toList.getD i 0
def wordL (e : Str × Str) (i : Nat) : Str := e.1 ++ ⟨#[sgnL i]⟩ ++ e.2
theorem sgnL_at {i : Nat} (h : i < 26) : signsL.cps.toList[i]? = some (sgnL i) := by
  have e : ∀ i ∈ List.range 26, signsL.cps.toList[i]? = some (sgnL i) := by decide +kernel
  exact e i (List.mem_range.mpr h)
theorem wordL_nm {e : Str × Str} {i : Nat} (he : e ∈ endsL) (h : i < 26) : isNm (.str (wordL e i)) = true := by
  have q : ∀ e ∈ endsL, ∀ i ∈ List.range 26, isNm (.str (wordL e i)) = true := by decide +kernel
  exact q e he i (List.mem_range.mpr h)
theorem wordL_inj {e : Str × Str} {i j : Nat} (he : e ∈ endsL) (h : i < 26) (h2 : j < 26) (hw : wordL e i = wordL e j) : i = j := by
  have q : ∀ e ∈ endsL, ∀ i ∈ List.range 26, ∀ j ∈ List.range 26, wordL e i = wordL e j → i = j := by decide +kernel
  exact q e he i (List.mem_range.mpr h) j (List.mem_range.mpr h2) hw
theorem endsL_len {e : Str × Str} (he : e ∈ endsL) : e.1.length ≤ 8 ∧ e.2.length ≤ 8 := by
  have q : ∀ e ∈ endsL, e.1.length ≤ 8 ∧ e.2.length ≤ 8 := by decide +kernel
  exact q e he
theorem stepL_nodup {o r : Nat} (h : o < 26) (h2 : r < 6) : ((List.range 9).map fun k => (o + (1 + 2 * r) * k) % 26).Nodup := by
  have q : ∀ o ∈ List.range 26, ∀ r ∈ List.range 6, ((List.range 9).map fun k => (o + (1 + 2 * r) * k) % 26).Nodup := by decide +kernel
  exact q o (List.mem_range.mpr h) r (List.mem_range.mpr h2)
def namesL (e : Str × Str) (o r : Nat) : List Str := (List.range 9).map fun k => wordL e ((o + (1 + 2 * r) * k) % 26)
theorem namesL_len {e : Str × Str} {o r : Nat} : (namesL e o r).length = 9 := by simp [namesL]
theorem namesL_nm {e : Str × Str} {o r : Nat} (he : e ∈ endsL) {n : Str} (h : n ∈ namesL e o r) : isNm (.str n) = true := by
  obtain ⟨k, _, rfl⟩ := List.mem_map.mp h
  exact wordL_nm he (Nat.mod_lt _ (by decide))
theorem namesL_nodup {e : Str × Str} {o r : Nat} (he : e ∈ endsL) (h : o < 26) (h2 : r < 6) : (namesL e o r).Nodup := by
  have q := stepL_nodup h h2
  have e1 : namesL e o r = ((List.range 9).map fun k => (o + (1 + 2 * r) * k) % 26).map (wordL e) := by
    rw [List.map_map]
    rfl
  rw [e1]
  refine List.pairwise_map.mpr (List.Pairwise.imp_of_mem (fun {i j} hi hj hij hw => ?_) q)
  obtain ⟨a, _, rfl⟩ := List.mem_map.mp hi
  obtain ⟨b, _, rfl⟩ := List.mem_map.mp hj
  exact hij (wordL_inj he (Nat.mod_lt _ (by decide)) (Nat.mod_lt _ (by decide)) hw)
def sp_names (K : PySem.W.Frag) : Sp := fun vs H Q _ => ∃ (p : Addr) (z0 z1 : Int), vs = [.ref p, .int 9] ∧ H p = some (.lst [.int z0, .int z1]) ∧
  ∀ (l : Addr) (ws : List Str) (y0 y1 : Int) (H' : Hp), But p H H' → H' p = some (.lst [.int y0, .int y1]) → H' l = some (.lst (ws.map V.str)) → ws.length = 9 → ws.Nodup → (∀ n ∈ ws, isNm (.str n) = true) → Q (.ref l) H'
theorem ok_names (T : Tx K mg) : Callee P w K mg base CX0 3 "_law_names" ["_law_pool_here", "_law_count"] [] (sp_names K) := by
  have Cp := ok_pick (P := P) (w := w) (base := base) T
  have Cd := (ok_draw (P := P) (w := w) (base := base) T).up (show 1 ≤ 2 by decide)
  refine mkCallee (fd__law_names T) (mg__law_names T) sc__law_names (fun _ _ _ _ _ _ us hl => match us, hl with | [_, _], _ => rfl) (fun vs H Q E h => ?_) (fun cdv A outer s H vs Q E hr h => ?_)
  · obtain ⟨p, z0, z1, rfl, _⟩ := h
    rfl
  · obtain ⟨p, z0, z1, rfl, hp, k⟩ := h
    have nd := sc__law_names.nd
    refine ⟨_, (pss_cons (ps_set (i := 2) nd rfl (Or.inr rfl) pe_str)
        (pss_cons (ps_asg (pe_tup (pa_cons (pcall Cd hr (pa_cons (pv 0) (pa_cons pe_int pa_nil))) (pa_cons (pe_op op_add pe_int (pe_op op_mul pe_int (pcall Cd hr (pa_cons (pv 0) (pa_cons pe_int pa_nil))))) pa_nil))) (pg_tup rfl (pgs_cons (pg_name (i := 3) nd rfl (Or.inr rfl)) (pgs_cons (pg_name (i := 4) nd rfl (Or.inr rfl)) pgs_nil))))
        (pss_cons (ps_set (i := 5) nd rfl (Or.inl rfl) (pe_lst (pa_cons (pe_tup (pa_cons pe_str (pa_cons pe_str pa_nil))) (pa_cons (pe_tup (pa_cons pe_str (pa_cons pe_str pa_nil))) (pa_cons (pe_tup (pa_cons pe_str (pa_cons pe_str pa_nil))) (pa_cons (pe_tup (pa_cons pe_str (pa_cons pe_str pa_nil))) (pa_cons (pe_tup (pa_cons pe_str (pa_cons pe_str pa_nil))) pa_nil)))))))
        (pss_cons (ps_asg (pcall Cp hr (pa_cons (pv 0) (pa_cons (pv 5) pa_nil))) (pg_tup rfl (pgs_cons (pg_name (i := 6) nd rfl (Or.inr rfl)) (pgs_cons (pg_name (i := 7) nd rfl (Or.inr rfl)) pgs_nil))))
        (pss_one (ps_ret (pe_lc (own := [("_law_k", 8)]) (g := gName 8) (tt := tYes) (te := tOp (fun x y H Q => ∃ i j, x = .str i ∧ y = .str j ∧ i.length + j.length ≤ sizeLine ∧ Q (.str (i ++ j)) H) (tOp (fun x y H Q => ∃ i j, x = .str i ∧ y = .str j ∧ i.length + j.length ≤ sizeLine ∧ Q (.str (i ++ j)) H) (tVar 6) (tOp rIxS (tVar 2) (tOp (rI (fun _ j => 0 < j) fun i j => .int (i % j)) (tCB (fun xs H Q => (∃ i, xs = [.int i] ∧ Q (.int i) H) ∨ ∃ k, xs = [.bl k] ∧ Q (.int (if k then 1 else 0)) H) (tCons (tOp (rI0 fun i j => .int (i + j)) (tVar 3) (tOp (rI CMul fun i j => .int (i * j)) (tVar 4) (tVar 8))) tNil)) (tC (.int 26))))) (tVar 7)) rfl nd (pi_range1 (by rfl) (fr_range T) (pa_cons (pv 1) pa_nil)) (blkOk_by (N := ["_law_pool_here", "_law_count", "_law_signs", "_law_origin", "_law_step_here", "_law_ends", "_law_head", "_law_tail", "_law_k"]) (sc := defScope s__law_names) (by decide +kernel)) (fun _ _ _ _ _ => (pg_name (i := 8) nd rfl (Or.inl rfl))) (fun _ _ _ _ _ => pts_nil) (fun _ _ _ _ _ => (pe_op op_add_str (pe_op op_add_str (pv 6) (pe_ix ix_str (pv 2) (pe_op op_mod (pe_callTy call_int1 (by rfl) (fr_int T) (by decide +kernel) (pa_cons (pe_op op_add (pv 3) (pe_op op_mul (pv 4) (pv 8))) pa_nil)) pe_int) (fun _ _ => rfl))) (pv 7)))))))))), ?_⟩
    refine q_asgX ?_
    refine ⟨_, rfl, p, z0, z1, 26, rfl, hp, by decide, by decide, fun o u0 u1 o0 o1 => ⟨_, rfl, p, u0, u1, 6, rfl, upd_same, by decide, by decide, fun r y0 y1 r0 r1 => ?_⟩⟩
    rw [upd_upd]
    obtain ⟨o, rfl⟩ : ∃ j : Nat, o = (j : Int) := ⟨o.toNat, by omega⟩
    obtain ⟨r, rfl⟩ : ∃ j : Nat, r = (j : Int) := ⟨r.toNat, by omega⟩
    have b1 : But p H (upd H p (.lst [.int y0, .int y1])) := But.mut
    have p1 : upd H p (.lst [.int y0, .int y1]) p = some (.lst [.int y0, .int y1]) := upd_same
    generalize upd H p (.lst [.int y0, .int y1]) = H1 at b1 p1 ⊢
    refine ⟨_, _, rfl, rfl, .inl ⟨by decide, by decide⟩, _, _, rfl, rfl, by show 2 ≤ sizeLine; decide, fun t nt => ?_⟩
    have s1 : Same H1 (upd H1 t (.tup [.int (o : Int), .int (1 + 2 * (r : Int))])) := same_new nt
    have b2 := b1.trans (But.of s1)
    have p2 := s1 _ _ p1
    refine ⟨t, _, rfl, sqT_of upd_same, rfl, _, _, rfl, _, _, rfl, rfl, ?_⟩
    dsimp only
    refine q_asgX ?_
    generalize upd H1 t (.tup [.int (o : Int), .int (1 + 2 * (r : Int))]) = H2 at b2 p2 ⊢
    clear s1 b1 p1 nt
    refine ⟨by show 2 ≤ sizeLine; decide, fun t0 n0 => ⟨by show 2 ≤ sizeLine; decide, fun t1 n1 => ⟨by show 2 ≤ sizeLine; decide, fun t2 n2 => ⟨by show 2 ≤ sizeLine; decide, fun t3 n3 => ⟨by show 2 ≤ sizeLine; decide, fun t4 n4 => ⟨by show 5 ≤ sizeLine; decide, fun l nl => ?_⟩⟩⟩⟩⟩⟩
    have sA : Same H2 (upd (upd (upd (upd (upd (upd H2 t0 (.tup [.str "", .str ""])) t1 (.tup [.str "", .str "q"])) t2 (.tup [.str "ab", .str ""])) t3 (.tup [.str "abcdefg", .str ""])) t4 (.tup [.str "", .str "abcdefg"])) l (.lst [.ref t0, .ref t1, .ref t2, .ref t3, .ref t4])) :=
      (((((same_new n0).trans (same_new n1)).trans (same_new n2)).trans (same_new n3)).trans (same_new n4)).trans (same_new nl)
    have a4 := same_new (o := .lst [.ref t0, .ref t1, .ref t2, .ref t3, .ref t4]) nl _ _ upd_same
    have a3 := same_new (o := .lst [.ref t0, .ref t1, .ref t2, .ref t3, .ref t4]) nl _ _ (same_new n4 _ _ upd_same)
    have a2 := same_new (o := .lst [.ref t0, .ref t1, .ref t2, .ref t3, .ref t4]) nl _ _ (same_new n4 _ _ (same_new n3 _ _ upd_same))
    have a1 := same_new (o := .lst [.ref t0, .ref t1, .ref t2, .ref t3, .ref t4]) nl _ _ (same_new n4 _ _ (same_new n3 _ _ (same_new n2 _ _ upd_same)))
    have a0 := same_new (o := .lst [.ref t0, .ref t1, .ref t2, .ref t3, .ref t4]) nl _ _ (same_new n4 _ _ (same_new n3 _ _ (same_new n2 _ _ (same_new n1 _ _ upd_same))))
    have pA := sA _ _ p2
    have lA : upd (upd (upd (upd (upd (upd H2 t0 (.tup [.str "", .str ""])) t1 (.tup [.str "", .str "q"])) t2 (.tup [.str "ab", .str ""])) t3 (.tup [.str "abcdefg", .str ""])) t4 (.tup [.str "", .str "abcdefg"])) l (.lst [.ref t0, .ref t1, .ref t2, .ref t3, .ref t4]) l = some (.lst [.ref t0, .ref t1, .ref t2, .ref t3, .ref t4]) := upd_same
    generalize upd (upd (upd (upd (upd (upd H2 t0 (.tup [.str "", .str ""])) t1 (.tup [.str "", .str "q"])) t2 (.tup [.str "ab", .str ""])) t3 (.tup [.str "abcdefg", .str ""])) t4 (.tup [.str "", .str "abcdefg"])) l (.lst [.ref t0, .ref t1, .ref t2, .ref t3, .ref t4]) = H3 at sA a0 a1 a2 a3 a4 pA lA ⊢
    have nlp : l ≠ p := fun e => by
      rw [e, pA] at lA
      cases lA
    dsimp only
    refine ⟨_, rfl, _, rfl, p, l, y0, y1, _, rfl, pA, lA, nlp, by show 0 < 5; decide, by show 5 < 1000000; decide, fun x w0 w1 hx => ?_⟩
    obtain ⟨tt, e, rfl, he, ht⟩ : ∃ (tt : Addr) (e : Str × Str), x = .ref tt ∧ e ∈ endsL ∧ H3 tt = some (.tup [.str e.1, .str e.2]) := by
      simp only [List.mem_cons, List.not_mem_nil, or_false] at hx
      rcases hx with h | h | h | h | h
      · exact ⟨t0, ("", ""), h, by decide +kernel, a0⟩
      · exact ⟨t1, ("", "q"), h, by decide +kernel, a1⟩
      · exact ⟨t2, ("ab", ""), h, by decide +kernel, a2⟩
      · exact ⟨t3, ("abcdefg", ""), h, by decide +kernel, a3⟩
      · exact ⟨t4, ("", "abcdefg"), h, by decide +kernel, a4⟩
    have b3 := (b2.trans (But.of sA)).trans (But.mut (H := H3) (p := p) (o := .lst [.int w0, .int w1]))
    have ntp : tt ≠ p := fun z => by
      rw [z, pA] at ht
      cases ht
    have ht' : upd H3 p (.lst [.int w0, .int w1]) tt = some (.tup [.str e.1, .str e.2]) := by rw [upd_ne ntp]; exact ht
    have p3 : upd H3 p (.lst [.int w0, .int w1]) p = some (.lst [.int w0, .int w1]) := upd_same
    generalize upd H3 p (.lst [.int w0, .int w1]) = H4 at b3 ht' p3 ⊢
    refine ⟨tt, _, rfl, sqT_of ht', rfl, _, _, rfl, _, _, rfl, rfl, ?_⟩
    dsimp only
    obtain ⟨l1, l2⟩ := endsL_len he
    refine tlc_R (fun _ => true) (fun x => match x with | .int k => .str (wordL e ((o + (1 + 2 * r) * k.toNat) % 26)) | _ => .non) 9 (fun R h => ⟨_, rfl, h H4 (Same.refl _)⟩) (by decide) (fun _ => rfl) (fun m hm H' _ R h => h H' (Same.refl _)) (fun m hm _ H' _ R h => ?_) (by decide) fun D H' nD s' hD => ?_
    · have hi : ((o : Int) + (1 + 2 * (r : Int)) * (m : Int)) % 26 = (((o + (1 + 2 * r) * m) % 26 : Nat) : Int) := by push_cast; rfl
      have hlt : (o + (1 + 2 * r) * m) % 26 < 26 := Nat.mod_lt _ (by decide)
      have hsl : sizeLine = 16777216 := by decide
      refine ⟨_, rfl, _, rfl, _, rfl, _, rfl, _, rfl, _, _, rfl, rfl, .inr ⟨by omega, by omega⟩, _, _, rfl, rfl, .inl ⟨_, rfl, _, _, rfl, rfl, (show (0 : Int) < 26 by decide), signsL, _, sgnL ((o + (1 + 2 * r) * m) % 26), rfl, rfl, by decide, by rw [hi]; exact atI_nat (sgnL_at hlt), _, _, rfl, rfl, ?_, _, rfl, _, _, rfl, rfl, ?_, h H' (Same.refl _)⟩⟩
      · show e.1.length + 1 ≤ sizeLine
        omega
      · show (e.1.cps ++ #[_]).size + e.2.length ≤ sizeLine
        rw [Array.size_append]
        show (e.1.length + 1) + _ ≤ _
        omega
    · have hw : ((((List.range (9 : Int).toNat).map fun m : Nat => V.int (m : Int)).filter fun _ => true).map fun x => match x with | .int k => V.str (wordL e ((o + (1 + 2 * r) * k.toNat) % 26)) | _ => .non) = (namesL e o r).map V.str := by
        rw [List.filter_eq_self.mpr (fun _ _ => rfl), List.map_map, namesL, List.map_map]
        rfl
      rw [hw] at hD
      have pD := s' _ _ p3
      exact k D (namesL e o r) w0 w1 H' (b3.trans (But.of s')) pD hD namesL_len (namesL_nodup he (by omega) (by omega)) fun n hn => namesL_nm he hn
/-! _law_some: a drawn value up to a greatest one -/
def sp_some (K : PySem.W.Frag) : Sp := fun vs H Q _ => ∃ (p : Addr) (z0 z1 g : Int), vs = [.ref p, .int g] ∧ H p = some (.lst [.int z0, .int z1]) ∧ 0 ≤ g ∧ g ≤ 1000 ∧ ∀ (v : V) (y0 y1 : Int) (H' : Hp), isIn g v = true → But p H H' → H' p = some (.lst [.int y0, .int y1]) → Q v H'
theorem ok_some (T : Tx K mg) : Callee P w K mg base CX0 2 "_law_some" ["_law_pool_here", "_law_g"] [] (sp_some K) := by
  have Cd := ok_draw (P := P) (w := w) (base := base) T
  refine mkCallee (fd__law_some T) (mg__law_some T) sc__law_some (fun _ _ _ _ _ _ us hl => match us, hl with | [_, _], _ => rfl) (fun vs H Q E h => ?_) (fun cdv A outer s H vs Q E hr h => ?_)
  · obtain ⟨p, z0, z1, g, rfl, _⟩ := h
    rfl
  · obtain ⟨p, z0, z1, g, rfl, hp, g0, g1, k⟩ := h
    have nd := sc__law_some.nd
    refine ⟨_, (pss_cons (ps_set (i := 2) nd rfl (Or.inl rfl) (pcall Cd hr (pa_cons (pv 0) (pa_cons (pe_op op_add (pv 1) pe_int) pa_nil))))
        (pss_one (ps_ret (pe_ifExp (pt_cmpR op_eq (pv 2) pe_int (nomark _)) pe_non (pe_op op_sub (pv 2) pe_int))))), ?_⟩
    refine q_asgX ⟨_, rfl, _, rfl, _, _, rfl, rfl, p, z0, z1, _, rfl, hp, by omega, by omega, fun r y0 y1 r0 r1 => ?_⟩
    refine ⟨_, rfl, rfl, _, rfl, ?_⟩
    by_cases hz : r = 0
    · exact iteDT (by rw [hz]) (k .non y0 y1 _ rfl But.mut upd_same)
    · refine iteD (nei hz) ⟨_, rfl, _, _, rfl, rfl, k _ y0 y1 _ ?_ But.mut upd_same⟩
      show (decide (0 ≤ r - 1) && decide (r - 1 ≤ g)) = true
      rw [decide_eq_true (by omega), decide_eq_true (by omega)]
      rfl
/-! the columns of the second set of laws: dicts -/
def colB (c : Col) : List (Key × V) := [(Sum.inr "name", .str c.name), (Sum.inr "g", .int c.top), (Sum.inr "d", c.dflt), (Sum.inr "n", .int c.num)]
theorem colB_vals (c : Col) : valV (colB c) (Sum.inr "name") = some (.str c.name) ∧ valV (colB c) (Sum.inr "g") = some (.int c.top) ∧ valV (colB c) (Sum.inr "d") = some c.dflt ∧ valV (colB c) (Sum.inr "n") = some (.int c.num) := by
  have h1 : ¬ ((Sum.inr "name" : Key) = (Sum.inr "g" : Key)) := by decide +kernel
  have h2 : ¬ ((Sum.inr "name" : Key) = (Sum.inr "d" : Key)) := by decide +kernel
  have h3 : ¬ ((Sum.inr "name" : Key) = (Sum.inr "n" : Key)) := by decide +kernel
  have h4 : ¬ ((Sum.inr "g" : Key) = (Sum.inr "d" : Key)) := by decide +kernel
  have h5 : ¬ ((Sum.inr "g" : Key) = (Sum.inr "n" : Key)) := by decide +kernel
  have h6 : ¬ ((Sum.inr "d" : Key) = (Sum.inr "n" : Key)) := by decide +kernel
  unfold colB
  refine ⟨valV_pos rfl, ?_, ?_, ?_⟩
  · simp [valV, h1]
  · simp [valV, h2, h4]
  · simp [valV, h3, h5, h6]
section
variable {H : Hp} {a : Addr} {c : Col}
theorem bc_name (h : H a = some (.dK (colB c))) : DGet H a (.str "name") (some (.str c.name)) := by
  rw [← (colB_vals c).1]; exact DGet.k (k := Sum.inr "name") h
theorem bc_g (h : H a = some (.dK (colB c))) : DGet H a (.str "g") (some (.int c.top)) := by
  rw [← (colB_vals c).2.1]; exact DGet.k (k := Sum.inr "g") h
theorem bc_d (h : H a = some (.dK (colB c))) : DGet H a (.str "d") (some c.dflt) := by
  rw [← (colB_vals c).2.2.1]; exact DGet.k (k := Sum.inr "d") h
theorem bc_n (h : H a = some (.dK (colB c))) : DGet H a (.str "n") (some (.int c.num)) := by
  rw [← (colB_vals c).2.2.2]; exact DGet.k (k := Sum.inr "n") h
end
theorem colB_put (c : Col) : (∀ s : Str, putK (colB c) (Sum.inr "name") (.str s) = colB { c with name := s }) ∧ (∀ i : Int, putK (colB c) (Sum.inr "g") (.int i) = colB { c with top := i }) ∧ (∀ v : V, putK (colB c) (Sum.inr "d") v = colB { c with dflt := v }) := by
  have h1 : ¬ ((Sum.inr "name" : Key) = (Sum.inr "g" : Key)) := by decide +kernel
  have h2 : ¬ ((Sum.inr "name" : Key) = (Sum.inr "d" : Key)) := by decide +kernel
  have h3 : ¬ ((Sum.inr "name" : Key) = (Sum.inr "n" : Key)) := by decide +kernel
  have h4 : ¬ ((Sum.inr "g" : Key) = (Sum.inr "d" : Key)) := by decide +kernel
  have h5 : ¬ ((Sum.inr "g" : Key) = (Sum.inr "n" : Key)) := by decide +kernel
  have h6 : ¬ ((Sum.inr "d" : Key) = (Sum.inr "n" : Key)) := by decide +kernel
  have k1 : ¬ ((Sum.inr "g" : Key) = (Sum.inr "name" : Key)) := fun e => h1 e.symm
  have k2 : ¬ ((Sum.inr "d" : Key) = (Sum.inr "name" : Key)) := fun e => h2 e.symm
  have k3 : ¬ ((Sum.inr "n" : Key) = (Sum.inr "name" : Key)) := fun e => h3 e.symm
  have k4 : ¬ ((Sum.inr "d" : Key) = (Sum.inr "g" : Key)) := fun e => h4 e.symm
  have k5 : ¬ ((Sum.inr "n" : Key) = (Sum.inr "g" : Key)) := fun e => h5 e.symm
  have k6 : ¬ ((Sum.inr "n" : Key) = (Sum.inr "d" : Key)) := fun e => h6 e.symm
  refine ⟨fun s => ?_, fun i => ?_, fun v => ?_⟩
  · simp [colB, putK, k1, k2, k3]
  · simp [colB, putK, h1, k4, k5]
  · simp [colB, putK, h2, h4, k6]
theorem colB_merge {n : Str} {g k : Int} {d : V} : mergeK [] [(Sum.inr "name", .str n), (Sum.inr "g", .int g), (Sum.inr "d", d), (Sum.inr "n", .int k)] = colB ⟨n, g, d, k⟩ := by
  have h1 : ¬ ((Sum.inr "name" : Key) = (Sum.inr "g" : Key)) := by decide +kernel
  have h2 : ¬ ((Sum.inr "name" : Key) = (Sum.inr "d" : Key)) := by decide +kernel
  have h3 : ¬ ((Sum.inr "name" : Key) = (Sum.inr "n" : Key)) := by decide +kernel
  have h4 : ¬ ((Sum.inr "g" : Key) = (Sum.inr "d" : Key)) := by decide +kernel
  have h5 : ¬ ((Sum.inr "g" : Key) = (Sum.inr "n" : Key)) := by decide +kernel
  have h6 : ¬ ((Sum.inr "d" : Key) = (Sum.inr "n" : Key)) := by decide +kernel
  simp [mergeK, putK, colB, h1, h2, h3, h4, h5, h6]
inductive BCols (H : Hp) : List Addr → List Col → Prop
  | nil : BCols H [] []
  | cons {a : Addr} {as : List Addr} {c : Col} {cs : List Col} : H a = some (.dK (colB c)) → BCols H as cs → BCols H (a :: as) (c :: cs)
theorem BCols.keepN {H H' : Hp} (s : KeepNL H H') : ∀ {as : List Addr} {cs : List Col}, BCols H as cs → BCols H' as cs
  | _, _, .nil => .nil
  | _, _, .cons h t => .cons (s _ _ (fun _ z => by cases z) h) (t.keepN s)
theorem BCols.keep {H H' : Hp} (s : Same H H') {as : List Addr} {cs : List Col} (h : BCols H as cs) : BCols H' as cs := h.keepN (KeepNL.of s)
theorem BCols.len {H : Hp} : ∀ {as : List Addr} {cs : List Col}, BCols H as cs → as.length = cs.length
  | _, _, .nil => rfl
  | _, _, .cons _ t => congrArg Nat.succ t.len
theorem BCols.at_ {H : Hp} : ∀ {as : List Addr} {cs : List Col} {i : Nat} {a : Addr}, BCols H as cs → as[i]? = some a → ∃ c, cs[i]? = some c ∧ H a = some (.dK (colB c))
  | _, _, _, _, .nil, e => by simp at e
  | _, _, 0, _, .cons h t, e => by
    simp at e
    subst e
    exact ⟨_, rfl, h⟩
  | _, _, i + 1, a, .cons h t, e => by
    obtain ⟨c, h1, h2⟩ := BCols.at_ (i := i) (a := a) t (by simpa using e)
    exact ⟨c, by simpa using h1, h2⟩
theorem BCols.app {H : Hp} : ∀ {as bs : List Addr} {cs ds : List Col}, BCols H as cs → BCols H bs ds → BCols H (as ++ bs) (cs ++ ds)
  | _, _, _, _, .nil, h => h
  | _, _, _, _, .cons h t, q => .cons h (t.app q)
theorem BCols.of_vs {H : Hp} : ∀ {ys : List V} {cs : List Col}, ys.length = cs.length → (∀ (i : Nat) (y : V), ys[i]? = some y → ∃ a c, y = .ref a ∧ cs[i]? = some c ∧ H a = some (.dK (colB c))) → ∃ as, ys = as.map V.ref ∧ BCols H as cs
  | [], [], _, _ => ⟨[], rfl, .nil⟩
  | [], _ :: _, h, _ => by cases h
  | _ :: _, [], h, _ => by cases h
  | y :: ys, c :: cs, h, f => by
    obtain ⟨a, c', rfl, q, ha⟩ := f 0 y rfl
    obtain rfl := Option.some.inj q
    obtain ⟨as, rfl, hh⟩ := BCols.of_vs (ys := ys) (cs := cs) (Nat.succ.inj h) fun i y' h1 => f (i + 1) y' (by simpa using h1)
    exact ⟨a :: as, rfl, .cons ha hh⟩

/-! the history of the second set of laws: a dict that is made anew at each change -/
/-- the words may be left out -/
def wordsK : Option Addr → List (Key × V)
  | some wd => [(Sum.inr "words", .ref wd)]
  | none => []
def bhDict (sh ch : Addr) (n : Int) (wd : Option Addr) : List (Key × V) := (Sum.inr "sheets", .ref sh) :: (Sum.inr "changes", .ref ch) :: (Sum.inr "given", .int n) :: wordsK wd
theorem bh_vals (sh ch : Addr) (n : Int) (wd : Option Addr) : valV (bhDict sh ch n wd) (Sum.inr "sheets") = some (.ref sh) ∧ valV (bhDict sh ch n wd) (Sum.inr "changes") = some (.ref ch) ∧ valV (bhDict sh ch n wd) (Sum.inr "given") = some (.int n) := by
  have h1 : ¬ ((Sum.inr "sheets" : Key) = (Sum.inr "changes" : Key)) := by decide +kernel
  have h2 : ¬ ((Sum.inr "sheets" : Key) = (Sum.inr "given" : Key)) := by decide +kernel
  have h4 : ¬ ((Sum.inr "changes" : Key) = (Sum.inr "given" : Key)) := by decide +kernel
  unfold bhDict
  refine ⟨valV_pos rfl, ?_, ?_⟩
  · simp [valV, h1]
  · simp [valV, h2, h4]
theorem bh_word (sh ch : Addr) (n : Int) (wd : Addr) : valV (bhDict sh ch n (some wd)) (Sum.inr "words") = some (.ref wd) := by
  have h3 : ¬ ((Sum.inr "sheets" : Key) = (Sum.inr "words" : Key)) := by decide +kernel
  have h5 : ¬ ((Sum.inr "changes" : Key) = (Sum.inr "words" : Key)) := by decide +kernel
  have h6 : ¬ ((Sum.inr "given" : Key) = (Sum.inr "words" : Key)) := by decide +kernel
  unfold bhDict wordsK
  simp [valV, h3, h5, h6]
/-- it is no column's dict -/
theorem bh_noname (sh ch : Addr) (n : Int) (wd : Option Addr) : valV (bhDict sh ch n wd) (Sum.inr "name") = none := by
  have z1 : ¬ ((Sum.inr "sheets" : Key) = (Sum.inr "name" : Key)) := by decide +kernel
  have z2 : ¬ ((Sum.inr "changes" : Key) = (Sum.inr "name" : Key)) := by decide +kernel
  have z3 : ¬ ((Sum.inr "given" : Key) = (Sum.inr "name" : Key)) := by decide +kernel
  have z4 : ¬ ((Sum.inr "words" : Key) = (Sum.inr "name" : Key)) := by decide +kernel
  cases wd <;> simp [bhDict, wordsK, valV, z1, z2, z3, z4]
theorem bh_few (sh ch : Addr) (n : Int) (wd : Option Addr) : (bhDict sh ch n wd).length < sizeLine := by
  have e : sizeLine = 16777216 := by decide
  cases wd <;> (rw [e]; simp [bhDict, wordsK])
section
variable {H : Hp} {h sh ch : Addr} {wd : Option Addr} {n : Int}
theorem bh_sheets (q : H h = some (.dK (bhDict sh ch n wd))) : DGet H h (.str "sheets") (some (.ref sh)) := by
  rw [← (bh_vals sh ch n wd).1]; exact DGet.k (k := Sum.inr "sheets") q
theorem bh_changes (q : H h = some (.dK (bhDict sh ch n wd))) : DGet H h (.str "changes") (some (.ref ch)) := by
  rw [← (bh_vals sh ch n wd).2.1]; exact DGet.k (k := Sum.inr "changes") q
theorem bh_given (q : H h = some (.dK (bhDict sh ch n wd))) : DGet H h (.str "given") (some (.int n)) := by
  rw [← (bh_vals sh ch n wd).2.2]; exact DGet.k (k := Sum.inr "given") q
end
theorem bh_put (sh ch : Addr) (n : Int) (wd : Option Addr) : (∀ s : Addr, putK (bhDict sh ch n wd) (Sum.inr "sheets") (.ref s) = bhDict s ch n wd) ∧ (∀ s : Addr, putK (bhDict sh ch n wd) (Sum.inr "changes") (.ref s) = bhDict sh s n wd) ∧ (∀ i : Int, putK (bhDict sh ch n wd) (Sum.inr "given") (.int i) = bhDict sh ch i wd) := by
  have h1 : ¬ ((Sum.inr "sheets" : Key) = (Sum.inr "changes" : Key)) := by decide +kernel
  have h2 : ¬ ((Sum.inr "sheets" : Key) = (Sum.inr "given" : Key)) := by decide +kernel
  have h4 : ¬ ((Sum.inr "changes" : Key) = (Sum.inr "given" : Key)) := by decide +kernel
  have k1 : ¬ ((Sum.inr "changes" : Key) = (Sum.inr "sheets" : Key)) := fun e => h1 e.symm
  have k2 : ¬ ((Sum.inr "given" : Key) = (Sum.inr "sheets" : Key)) := fun e => h2 e.symm
  have k3 : ¬ ((Sum.inr "words" : Key) = (Sum.inr "sheets" : Key)) := by decide +kernel
  have k4 : ¬ ((Sum.inr "given" : Key) = (Sum.inr "changes" : Key)) := fun e => h4 e.symm
  have k5 : ¬ ((Sum.inr "words" : Key) = (Sum.inr "changes" : Key)) := by decide +kernel
  have k6 : ¬ ((Sum.inr "words" : Key) = (Sum.inr "given" : Key)) := by decide +kernel
  refine ⟨fun s => ?_, fun s => ?_, fun i => ?_⟩
  · cases wd <;> simp [bhDict, wordsK, putK, k1, k2, k3]
  · cases wd <;> simp [bhDict, wordsK, putK, h1, k4, k5]
  · cases wd <;> simp [bhDict, wordsK, putK, h2, h4, k6]
theorem bh_merge {sh ch : Addr} {n : Int} {wd : Addr} : mergeK [] [(Sum.inr "sheets", .ref sh), (Sum.inr "changes", .ref ch), (Sum.inr "given", .int n), (Sum.inr "words", .ref wd)] = bhDict sh ch n (some wd) := by
  have h1 : ¬ ((Sum.inr "sheets" : Key) = (Sum.inr "changes" : Key)) := by decide +kernel
  have h2 : ¬ ((Sum.inr "sheets" : Key) = (Sum.inr "given" : Key)) := by decide +kernel
  have h3 : ¬ ((Sum.inr "sheets" : Key) = (Sum.inr "words" : Key)) := by decide +kernel
  have h4 : ¬ ((Sum.inr "changes" : Key) = (Sum.inr "given" : Key)) := by decide +kernel
  have h5 : ¬ ((Sum.inr "changes" : Key) = (Sum.inr "words" : Key)) := by decide +kernel
  have h6 : ¬ ((Sum.inr "given" : Key) = (Sum.inr "words" : Key)) := by decide +kernel
  simp [mergeK, putK, bhDict, wordsK, h1, h2, h3, h4, h5, h6]
/-- the sheets, by their places -/
def BSh (H : Hp) (es : List Addr) (eds : List (List Col)) : Prop := es.length = eds.length ∧ ∀ (i : Nat) (e : Addr) (cs : List Col), es[i]? = some e → eds[i]? = some cs → ∃ as : List Addr, H e = some (.lst (as.map V.ref)) ∧ BCols H as cs
/-- the words, where there are any -/
def WdAt (H : Hp) : Option Addr → List Str → Prop
  | some wd, ws => H wd = some (.lst (ws.map V.str))
  | none, ws => ws = []
theorem WdAt.keep {H H' : Hp} (s : Same H H') : ∀ {wd : Option Addr} {ws : List Str}, WdAt H wd ws → WdAt H' wd ws
  | some _, _, h => s _ _ h
  | none, _, h => h
theorem WdAt.there {H : Hp} : ∀ {wd : Option Addr} {ws : List Str}, WdAt H wd ws → ws ≠ [] → ∃ w, wd = some w ∧ H w = some (.lst (ws.map V.str))
  | some w, _, h, _ => ⟨w, rfl, h⟩
  | none, _, h, n => absurd h n
theorem bh_words {H : Hp} {h sh ch wd : Addr} {n : Int} (q : H h = some (.dK (bhDict sh ch n (some wd)))) : DGet H h (.str "words") (some (.ref wd)) := by
  rw [← bh_word sh ch n wd]; exact DGet.k (k := Sum.inr "words") q
def BhAt (K : PySem.W.Frag) (H : Hp) (h : Addr) (cs : List Col) (chs : List Ch) (ws : List Str) : Prop := ∃ (sh ch : Addr) (wd : Option Addr) (es ts : List Addr), H h = some (.dK (bhDict sh ch (atC cs chs).2 wd)) ∧ H sh = some (.lst (es.map V.ref)) ∧ BSh H es (edsTo cs chs (chs.length + 1)) ∧ H ch = some (.lst (ts.map V.ref)) ∧ Chs K H ts chs ∧ WdAt H wd ws
theorem BSh.keep {H H' : Hp} {es : List Addr} {eds : List (List Col)} (s : Same H H') (q : BSh H es eds) : BSh H' es eds := ⟨q.1, fun i e cs h1 h2 => by
  obtain ⟨as, h3, h4⟩ := q.2 i e cs h1 h2
  exact ⟨as, s _ _ h3, h4.keep s⟩⟩
theorem BhAt.keep {K : PySem.W.Frag} {H H' : Hp} {h : Addr} {cs : List Col} {chs : List Ch} {ws : List Str} (s : Same H H') (q : BhAt K H h cs chs ws) : BhAt K H' h cs chs ws := by
  obtain ⟨sh, ch, wd, es, ts, h1, h2, h3, h4, h5, h6⟩ := q
  exact ⟨sh, ch, wd, es, ts, s _ _ h1, s _ _ h2, h3.keep s, s _ _ h4, h5.keep s, h6.keep s⟩
theorem strs_no {ws : List Str} {a b : Int} : ¬ ws.map V.str = [.int a, .int b] := fun e => by
  cases ws with
  | nil => cases e
  | cons x xs => cases (List.cons.inj e).1
theorem BhAt.but {K : PySem.W.Frag} {H H' : Hp} {h p : Addr} {cs : List Col} {chs : List Ch} {ws : List Str} {y0 y1 : Int} (q : BhAt K H h cs chs ws) (hp : H p = some (.lst [.int y0, .int y1])) (bt : But p H H') : BhAt K H' h cs chs ws := by
  obtain ⟨sh, ch, wd, es, ts, h1, h2, h3, h4, h5, h6⟩ := q
  have kn := KeepNL.ofBut hp bt
  have no : ∀ {a : Addr} {as : List Addr}, H a = some (.lst (as.map V.ref)) → H' a = some (.lst (as.map V.ref)) := fun {a as} e => bt _ _ (fun z => by
    rw [z, hp] at e
    exact refs_no (HO.lst.inj (Option.some.inj e)).symm) e
  refine ⟨sh, ch, wd, es, ts, kn _ _ (fun _ z => by cases z) h1, no h2, ⟨h3.1, fun i e c k1 k2 => ?_⟩, no h4, h5.keepNL kn, ?_⟩
  · obtain ⟨as, k3, k4⟩ := h3.2 i e c k1 k2
    exact ⟨as, no k3, k4.keepN kn⟩
  · cases wd with
    | none => exact h6
    | some wd =>
      have h6 : H wd = some (.lst (ws.map V.str)) := h6
      refine bt _ _ (fun z => ?_) h6
      rw [z, hp] at h6
      exact strs_no (HO.lst.inj (Option.some.inj h6)).symm
/-- a sheet, looked up -/
theorem BhAt.sheet {K : PySem.W.Frag} {H : Hp} {h : Addr} {cs : List Col} {chs : List Ch} {ws : List Str} (q : BhAt K H h cs chs ws) {m : Nat} (hm : m ≤ chs.length) : ∃ (sh : Addr) (es : List Addr) (e : Addr) (as : List Addr), DGet H h (.str "sheets") (some (.ref sh)) ∧ H sh = some (.lst (es.map V.ref)) ∧ es.length = chs.length + 1 ∧
    es[m]? = some e ∧ H e = some (.lst (as.map V.ref)) ∧ BCols H as (atC cs (chs.take m)).1 := by
  obtain ⟨sh, ch, wd, es, ts, h1, h2, h3, h4, h5, h6⟩ := q
  have hl : es.length = chs.length + 1 := by rw [h3.1, edsTo_len]
  have hem : es[m]? = some (es[m]'(by omega)) := List.getElem?_eq_getElem (by omega)
  obtain ⟨as, hea, hec⟩ := h3.2 m _ _ hem (edsTo_get (by omega))
  exact ⟨sh, es, _, as, bh_sheets h1, h2, hl, hem, hea, hec⟩
/-- the last of a list, by -1 -/
theorem at_last {as : List Addr} {n : Nat} {e : Addr} (hl : as.length = n + 1) (h : as[n]? = some e) : atI (as.map V.ref) (-1) = some (.ref e) := by
  unfold atI ixN
  rw [if_neg (by omega), if_pos (by rw [List.length_map]; omega), List.length_map, show ((-1 : Int) + (as.length : Nat)).toNat = n by omega]
  show (as.map V.ref)[n]? = _
  rw [List.getElem?_map, h]
  rfl
/-- a sheet, and the history's own dict -/
theorem BhAt.sheetR {K : PySem.W.Frag} {H : Hp} {h : Addr} {cs : List Col} {chs : List Ch} {ws : List Str} (q : BhAt K H h cs chs ws) {m : Nat} (hm : m ≤ chs.length) : ∃ (sh ca : Addr) (wd : Option Addr) (n : Int) (es : List Addr) (e : Addr) (as : List Addr), H h = some (.dK (bhDict sh ca n wd)) ∧ H sh = some (.lst (es.map V.ref)) ∧ es.length = chs.length + 1 ∧
    es[m]? = some e ∧ H e = some (.lst (as.map V.ref)) ∧ BCols H as (atC cs (chs.take m)).1 := by
  obtain ⟨sh, ch, wd, es, ts, h1, h2, h3, h4, h5, h6⟩ := q
  have hl : es.length = chs.length + 1 := by rw [h3.1, edsTo_len]
  have hem : es[m]? = some (es[m]'(by omega)) := List.getElem?_eq_getElem (by omega)
  obtain ⟨as, hea, hec⟩ := h3.2 m _ _ hem (edsTo_get (by omega))
  exact ⟨sh, ch, wd, _, es, _, as, h1, h2, hl, hem, hea, hec⟩
/-- a change, looked up -/
theorem BhAt.change {K : PySem.W.Frag} {H : Hp} {h : Addr} {cs : List Col} {chs : List Ch} {ws : List Str} (q : BhAt K H h cs chs ws) {m : Nat} {ch : Ch} (hm : chs[m]? = some ch) : ∃ (ca : Addr) (ts : List Addr) (t : Addr), DGet H h (.str "changes") (some (.ref ca)) ∧ H ca = some (.lst (ts.map V.ref)) ∧ ts.length = chs.length ∧ ts[m]? = some t ∧ ChAt K H t ch := by
  obtain ⟨sh, ca, wd, es, ts, h1, h2, h3, h4, h5, h6⟩ := q
  have hl : ts.length = chs.length := h5.len
  have hml := (List.getElem?_eq_some_iff.mp hm).1
  have ht : ts[m]? = some (ts[m]'(by omega)) := List.getElem?_eq_getElem (by omega)
  obtain ⟨c, e1, e2⟩ := h5.at_ ht
  obtain rfl := Option.some.inj (hm.symm.trans e1)
  exact ⟨ca, ts, _, bh_changes h1, h4, hl, ht, e2⟩

/-! _law_columns: the first columns, and the words -/
theorem BCols.but {H H' : Hp} {p : Addr} {y0 y1 : Int} (hp : H p = some (.lst [.int y0, .int y1])) (bt : But p H H') {as : List Addr} {cs : List Col} (h : BCols H as cs) : BCols H' as cs := h.keepN (KeepNL.ofBut hp bt)
theorem refsL_but {H H' : Hp} {p a : Addr} {as : List Addr} {y0 y1 : Int} (hp : H p = some (.lst [.int y0, .int y1])) (bt : But p H H') (h : H a = some (.lst (as.map V.ref))) : H' a = some (.lst (as.map V.ref)) := bt _ _ (fun z => by
  rw [z, hp] at h
  exact refs_no (HO.lst.inj (Option.some.inj h)).symm) h
theorem strsL_but {H H' : Hp} {p a : Addr} {ws : List Str} {y0 y1 : Int} (hp : H p = some (.lst [.int y0, .int y1])) (bt : But p H H') (h : H a = some (.lst (ws.map V.str))) : H' a = some (.lst (ws.map V.str)) := bt _ _ (fun z => by
  rw [z, hp] at h
  exact strs_no (HO.lst.inj (Option.some.inj h)).symm) h
/-- what the words are -/
structure WordsOk (ws : List Str) : Prop where
  len : ws.length = 9
  nd : ws.Nodup
  nm : ∀ n ∈ ws, isNm (.str n) = true
/-- the columns drawn so far -/
structure ColsI (ws : List Str) (cs : List Col) (i : Nat) : Prop where
  len : cs.length = i
  nms : cs.map (·.name) = ws.take i
  pl : Placed cs
  ok : ∀ c ∈ cs, ColOk c
theorem ColsI.good {ws : List Str} {cs : List Col} {i : Nat} (h : ColsI ws cs i) (w : WordsOk ws) (h1 : 1 ≤ i) (h6 : i ≤ 6) : Good cs cs.length := by
  refine ⟨fun c hc => ⟨h.ok c hc, ?_⟩, by rw [h.len]; exact h1, by rw [h.len]; exact h6, ?_, by omega⟩
  · obtain ⟨j, hj⟩ := List.mem_iff_getElem?.mp hc
    have := h.pl j c hj
    have := (List.getElem?_eq_some_iff.mp hj).1
    omega
  · rw [h.nms]
    exact w.nd.sublist (List.take_sublist _ _)
theorem ColsI.more {ws : List Str} {cs : List Col} {i : Nat} (h : ColsI ws cs i) {n : Str} {g : Int} {d : V} (hn : ws[i]? = some n) (ok : ColOk ⟨n, g, d, i⟩) : ColsI ws (cs ++ [⟨n, g, d, i⟩]) (i + 1) := by
  refine ⟨?_, ?_, ?_, ?_⟩
  · rw [List.length_append, h.len]
    rfl
  · rw [List.map_append, h.nms, List.take_add_one, hn]
    rfl
  · intro j c hj
    by_cases hl : j < cs.length
    · rw [List.getElem?_append_left hl] at hj
      exact h.pl j c hj
    · rw [List.getElem?_append_right (by omega)] at hj
      have e : j - cs.length = 0 := by
        have := (List.getElem?_eq_some_iff.mp hj).1
        have z : [(⟨n, g, d, i⟩ : Col)].length = 1 := rfl
        omega
      rw [e] at hj
      obtain rfl := Option.some.inj hj
      show (i : Int) = j
      have := h.len
      omega
  · intro c hc
    rcases List.mem_append.mp hc with hc | hc
    · exact h.ok c hc
    · rw [List.mem_singleton] at hc
      rw [hc]
      exact ok
def sp_columnsL (K : PySem.W.Frag) : Sp := fun vs H Q _ => ∃ (p : Addr) (z0 z1 m top : Int), vs = [.ref p, .int m, .int top] ∧ H p = some (.lst [.int z0, .int z1]) ∧ 1 ≤ m ∧ m ≤ 6 ∧ 1 ≤ top ∧ top ≤ 99 ∧
  ∀ (r l wd : Addr) (as : List Addr) (cs : List Col) (ws : List Str) (y0 y1 : Int) (H' : Hp), But p H H' → H' p = some (.lst [.int y0, .int y1]) → H' r = some (.lst [.ref l, .ref wd]) → H' l = some (.lst (as.map V.ref)) → BCols H' as cs → H' wd = some (.lst (ws.map V.str)) → WordsOk ws → Placed cs → Good cs cs.length → ((cs.length : Int) ≤ m ∧ ∀ c ∈ cs, c.top ≤ top) → Q (.ref r) H'
theorem ok_columnsL (T : Tx K mg) : Callee P w K mg base CX0 4 "_law_columns" ["_law_pool_here", "_law_count_most", "_law_top"] [] (sp_columnsL K) := by
  have Cn := ok_names (P := P) (w := w) (base := base) T
  have Cd := (ok_draw (P := P) (w := w) (base := base) T).up (show 1 ≤ 3 by decide)
  have Cs := (ok_some (P := P) (w := w) (base := base) T).up (show 2 ≤ 3 by decide)
  refine mkCallee (fd__law_columns T) (mg__law_columns T) sc__law_columns (fun _ _ _ _ _ _ us hl => match us, hl with | [_, _, _], _ => rfl) (fun vs H Q E h => ?_) (fun cdv A outer s H vs Q E hr h => ?_)
  · obtain ⟨p, z0, z1, m, top, rfl, _⟩ := h
    rfl
  · obtain ⟨p, z0, z1, m, top, rfl, hp, m1, m6, t1, t9, k⟩ := h
    have nd := sc__law_columns.nd
    refine ⟨_, (pss_cons (ps_par (i := 3) (j := 4) rfl nd rfl rfl (by decide) rfl rfl (pa_cons (pcall Cn hr (pa_cons (pv 0) (pa_cons pe_int pa_nil))) (pa_cons (pe_lst pa_nil) pa_nil)) (by rfl))
        (pss_cons (ps_for PassesOwn.never rfl (pi_range1 (by rfl) (fr_range T) (pa_cons (pe_op op_add pe_int (pcall Cd hr (pa_cons (pv 0) (pa_cons (pv 1) pa_nil)))) pa_nil)) (pg_name (i := 5) nd rfl (Or.inl rfl)) (pss_cons (ps_set (i := 6) nd rfl (Or.inl rfl) (pe_op op_add pe_int (pcall Cd hr (pa_cons (pv 0) (pa_cons (pv 2) pa_nil)))))
        (pss_one (ps_set (i := 4) nd rfl (Or.inl rfl) (pe_op op_cat (pv 4) (pe_lst (pa_cons (pe_disp (pps_cons pe_str (pe_ix ix_list (pv 3) (pv 5) (fun _ _ => rfl)) (pps_cons pe_str (pv 6) (pps_cons pe_str (pcall Cs hr (pa_cons (pv 0) (pa_cons (pv 6) pa_nil))) (pps_cons pe_str (pv 5) pps_nil)))) (by rfl) (by rfl) (fun z => by cases z) (by decide)) pa_nil)))))))
        (pss_one (ps_ret (pe_lst (pa_cons (pv 4) (pa_cons (pv 3) pa_nil))))))), ?_⟩
    have hsl : sizeLine = 16777216 := by decide
    refine ⟨_, rfl, p, z0, z1, rfl, hp, fun wd ws y0 y1 H1 b1 p1 w1 wl wn wm => ⟨by show 0 ≤ sizeLine; decide, fun l nl => ⟨_, _, rfl, ?_⟩⟩⟩
    have W : WordsOk ws := ⟨wl, wn, wm⟩
    dsimp only
    have s1 : Same H1 (upd H1 l (.lst [])) := same_new nl
    have b2 := b1.trans (But.of s1)
    have p2 := s1 _ _ p1
    have w2 := s1 _ _ w1
    have l2 : upd H1 l (.lst []) l = some (.lst []) := upd_same
    generalize upd H1 l (.lst []) = H2 at b2 p2 w2 l2 ⊢
    refine ⟨_, rfl, _, rfl, p, y0, y1, m, rfl, p2, by omega, by omega, fun r u0 u1 r0 r1 => ⟨_, _, rfl, rfl, ?_⟩⟩
    refine ⟨_, rfl, by omega, by omega, ?_⟩
    have b3 := b2.trans (But.mut (H := H2) (p := p) (o := .lst [.int u0, .int u1]))
    have bt : But p H2 (upd H2 p (.lst [.int u0, .int u1])) := But.mut
    have p3 : upd H2 p (.lst [.int u0, .int u1]) p = some (.lst [.int u0, .int u1]) := upd_same
    refine for_range (lo := 0) (n := (1 + r).toNat) (fun i σ H' => ∃ (l : Addr) (as : List Addr) (cs : List Col) (y0 y1 : Int) (x5 x6 : Option V), σ = [some (.ref p), some (.int m), some (.int top), some (.ref wd), some (.ref l), x5, x6] ∧ But p H H' ∧ H' p = some (.lst [.int y0, .int y1]) ∧ H' wd = some (.lst (ws.map V.str)) ∧
      H' l = some (.lst (as.map V.ref)) ∧ BCols H' as cs ∧ ColsI ws cs i ∧ ∀ c ∈ cs, c.top ≤ top) ⟨l, [], [], u0, u1, none, none, rfl, b3, p3, strsL_but p2 bt w2, refsL_but (as := []) p2 bt l2, .nil, ⟨rfl, rfl, fun i c h => by simp at h, fun c h => by simp at h⟩, fun c h => by simp at h⟩ ?_ ?_
    · rintro i σ H' hi ⟨l, as, cs, y0, y1, x5, x6, rfl, b, hp', hw', hl', hc', I, up⟩
      have hi9 : i < 9 := by omega
      refine ⟨_, rfl, _, rfl, p, y0, y1, top, rfl, hp', by omega, by omega, fun g v0 v1 g0 g1 => ⟨_, _, rfl, rfl, ?_⟩⟩
      have bt4 : But p H' (upd H' p (.lst [.int v0, .int v1])) := But.mut
      have b4 := b.trans bt4
      have p4 : upd H' p (.lst [.int v0, .int v1]) p = some (.lst [.int v0, .int v1]) := upd_same
      have w4 := strsL_but hp' bt4 hw'
      have l4 := refsL_but hp' bt4 hl'
      have c4 := hc'.but hp' bt4
      generalize upd H' p (.lst [.int v0, .int v1]) = H4 at b4 p4 w4 l4 c4 ⊢
      obtain ⟨n, hn⟩ : ∃ n, ws[i]? = some n := ⟨_, List.getElem?_eq_getElem (by rw [wl]; exact hi9)⟩
      refine ⟨_, rfl, fun q nq => ⟨_, rfl, _, rfl, wd, _, _, .str n, rfl, by rw [Int.zero_add], sqL_of (same_new nq _ _ w4), ?_, ?_⟩⟩
      · refine atI_nat ?_
        rw [List.getElem?_map, hn]
        rfl
      have sq : Same H4 (upd H4 q (.dK [])) := same_new nq
      have p5 := sq _ _ p4
      have q5 : upd H4 q (.dK []) q = some (.dK []) := upd_same
      have nqp : q ≠ p := npool0 p4 nq
      generalize upd H4 q (.dK []) = H5 at sq p5 q5 ⊢
      refine ⟨_, rfl, _, rfl, _, rfl, p, v0, v1, 1 + g, rfl, p5, by omega, by omega, fun v x0 x1 H6 hv b6 p6 => ⟨_, rfl, b6 _ _ nqp q5, [(Sum.inr "name", .str n), (Sum.inr "g", .int (1 + g)), (Sum.inr "d", v), (Sum.inr "n", .int (0 + (i : Int)))], rfl, by show 4 ≤ 15; decide, ?_⟩⟩
      rw [colB_merge, Int.zero_add]
      have b47 : But p H4 (upd H6 q (.dK (colB ⟨n, 1 + g, v, i⟩))) := fun b o hb e => by
        rw [upd_ne (ne_of_none e nq)]
        exact b6 _ _ hb (sq _ _ e)
      have w7 := strsL_but p4 b47 w4
      have l7 := refsL_but p4 b47 l4
      have c7 := c4.but p4 b47
      have b7 := b4.trans b47
      have p7 : upd H6 q (.dK (colB ⟨n, 1 + g, v, i⟩)) p = some (.lst [.int x0, .int x1]) := by
        rw [upd_ne nqp.symm]
        exact p6
      have q7 : upd H6 q (.dK (colB ⟨n, 1 + g, v, i⟩)) q = some (.dK (colB ⟨n, 1 + g, v, i⟩)) := upd_same
      generalize upd H6 q (.dK (colB ⟨n, 1 + g, v, i⟩)) = H7 at b7 p7 w7 l7 c7 q7 ⊢
      clear b47 p6 b6 q5 p5 sq p4 w4 l4 c4
      refine ⟨by show 1 ≤ sizeLine; decide, fun u nu => ⟨l, u, _, _, rfl, rfl, same_new nu _ _ l7, upd_same, ?_, fun l8 nl8 => ?_⟩⟩
      · have := I.len
        rw [List.length_map, c7.len]
        show _ + 1 ≤ _
        omega
      have s8 : Same H7 (upd (upd H7 u (.lst [.ref q])) l8 (.lst (as.map V.ref ++ [.ref q]))) := (same_new nu).trans (same_new nl8)
      refine ⟨l8, as ++ [q], cs ++ [⟨n, 1 + g, v, i⟩], x0, x1, _, _, rfl, b7.trans (But.of s8), s8 _ _ p7, s8 _ _ w7, ?_, (c7.keep s8).app (.cons (s8 _ _ q7) .nil), I.more hn ⟨wm n (List.mem_of_getElem? hn), ?_, hv, by show (0 : Int) ≤ i; omega⟩, fun c2 hc2 => ?_⟩
      · rw [upd_same, List.map_append]
        rfl
      · show (decide (1 ≤ 1 + g) && decide (1 + g ≤ 99)) = true
        rw [decide_eq_true (by omega), decide_eq_true (by omega)]
        rfl
      · rcases List.mem_append.mp hc2 with hc2 | hc2
        · exact up c2 hc2
        · rw [List.mem_singleton.mp hc2]
          show 1 + g ≤ top
          omega
    · rintro σ H' ⟨l, as, cs, y0, y1, x5, x6, rfl, b, hp', hw', hl', hc', I, up⟩
      refine ⟨_, rfl, _, rfl, by show 2 ≤ sizeLine; decide, fun t nt => ?_⟩
      have sn : Same H' (upd H' t (.lst [.ref l, .ref wd])) := same_new nt
      exact k t l wd as cs ws y0 y1 _ (b.trans (But.of sn)) (sn _ _ hp') upd_same (sn _ _ hl') (hc'.keep sn) (sn _ _ hw') W I.pl (I.good W (by omega) (by omega)) ⟨by rw [I.len]; omega, up⟩
/-! _law_fits, _law_narrow -/
def fitV (g : Int) : V → Bool
  | .int i => decide (i ≤ g)
  | _ => true
def sp_fits : Sp := fun vs H Q _ => ∃ (v : V) (g : Int), vs = [v, .int g] ∧ valOk v = true ∧ Q (.bl (fitV g v)) H
theorem ok_fits (T : Tx K mg) : Callee P w K mg base CX0 1 "_law_fits" ["_law_value", "_law_g"] [] sp_fits := by
  refine mkCallee (fd__law_fits T) (mg__law_fits T) sc__law_fits (fun _ _ _ _ _ _ us hl => match us, hl with | [_, _], _ => rfl) (fun vs H Q E h => ?_) (fun cdv A outer s H vs Q E hr h => ?_)
  · obtain ⟨v, g, rfl, _⟩ := h
    rfl
  · obtain ⟨v, g, rfl, hv, k⟩ := h
    refine ⟨_, pss_one (ps_ret (pe_or (pe_cmpR op_isN (pv 0) pe_non (nomark _)) (pe_one (pe_cmpR op_le (pv 0) (pv 1) (nomark _))))), ?_⟩
    cases v with
    | non => exact ⟨_, rfl, rfl, _, rfl, k⟩
    | int i => exact ⟨_, rfl, rfl, _, rfl, _, rfl, _, rfl, _, _, rfl, rfl, k⟩
    | _ => cases hv
/-! xs != [], xs == [], whatever the items are -/
section
variable {X : Cx}
def rNeE (K : PySem.W.Frag) : R2 := fun x y H Q => ∃ (a b : Addr) (xs : List V), x = .ref a ∧ y = .ref b ∧ SqL K H a xs ∧ SqL K H b [] ∧ Q (.bl (!xs.isEmpty)) H
theorem op_neE (hu : X.A.units + 64 < cLine) : OpR X (compareOp .NotEq) (rNeE X.K) := by
  intro pins s σ H x y v u Q I rx ry h
  obtain ⟨a, b, xs, rfl, rfl, ha, hb, q⟩ := h
  cases rx
  cases ry
  obtain ⟨its, r, pl, hz⟩ := I.list ha
  obtain ⟨jts, r2, pl2, hz2⟩ := I.list hb
  cases r2
  cases xs with
  | nil =>
    cases r
    exact op_neD hu pins s σ H (.ref a) (.ref b) (.ref a) (.ref b) Q I rfl rfl ⟨.list [], .list [], .lst ha .nil, .lst hb .nil, rfl, rfl, q⟩
  | cons z zs =>
    cases r with
    | cons rz rzs =>
      show wpAny (model X.prog X.w) X.A (richCompare .NotEq (.ref a) (.ref b)) (EP X pins σ Q) X.xe s
      exact SeqAt.RcNeAt.lists_lengths pl.isList pl2.isList (by simp) (by omega) _ _ _ _ ⟨.bl true, H, I, rfl, q⟩
end

/-! _law_column: whether a name is taken -/
def sp_lcolumn (K : PySem.W.Frag) : Sp := fun vs H Q _ => ∃ (l : Addr) (as : List Addr) (cs : List Col) (n : Str), vs = [.ref l, .str n] ∧ SqL K H l (as.map V.ref) ∧ BCols H as cs ∧ as.length ≤ 1000 ∧ ∀ (v : V) (H' : Hp), Same H H' → (v = .non ↔ n ∉ cs.map (·.name)) → Q v H'
theorem ok_lcolumn (T : Tx K mg) : Callee P w K mg base CX0 1 "_law_column" ["_law_cols", "_law_name"] [] (sp_lcolumn K) := by
  refine mkCallee (fd__law_column T) (mg__law_column T) sc__law_column (fun _ _ _ _ _ _ us hl => match us, hl with | [_, _], _ => rfl) (fun vs H Q E h => ?_) (fun cdv A outer s H vs Q E hr h => ?_)
  · obtain ⟨l, as, cs, n, rfl, _⟩ := h
    rfl
  · obtain ⟨l, as, cs, n, rfl, hl, hc, hlen, k⟩ := h
    have nd := sc__law_column.nd
    have hu := hu_of hr
    refine ⟨_, (pss_cons (ps_setLc (i := 2) (own := [("_law_col", 3)]) (g := gName 3) (tt := tTest (tOp rEq (tDGet (tVar 3) (tC (.str "name"))) (tVar 1))) (te := tVar 3) rfl nd rfl rfl (by rfl) (pi_list (pv 0)) (blkOk_by (N := ["_law_cols", "_law_name", "_law_found", "_law_col"]) (sc := defScope s__law_column) (by decide +kernel)) (fun _ _ _ _ _ => (pg_name (i := 3) nd rfl (Or.inl rfl))) (fun _ _ _ _ _ => pts_one (pt_cmpR op_eq (pe_dget hu (pv 3) pe_str (fun _ _ => rfl)) (pv 1) (nomark _))) (fun _ _ _ _ _ => (pv 3)))
        (pss_one (ps_ret (pe_ifExp (pt_cmpR (op_neE hr.units) (pv 2) (pe_lst pa_nil) (nomark _)) (pe_ix ix_list (pv 2) pe_int (fun _ _ => rfl)) pe_non)))), ?_⟩
    refine q_asgX ?_
    refine ⟨_, rfl, l, rfl, ⟨_, hl⟩, fun D nD => ?_⟩
    refine lc_list (xs := as.map V.ref) (fun j H' => Same H H' ∧ ∃ bs : List Addr, H' D = some (.lst (bs.map V.ref)) ∧ bs.length ≤ j ∧ (bs = [] ↔ n ∉ (cs.take j).map (·.name))) ⟨same_new nD, [], upd_same, Nat.le_refl _, by simp⟩ (fun j H' _ q => q.1.seq hl) ?_ ?_
    · rintro j x H' hx ⟨s', bs, hD, hb, hbn⟩
      rw [List.getElem?_map] at hx
      cases ha : as[j]? with
      | none =>
        rw [ha] at hx
        cases hx
      | some a =>
        rw [ha] at hx
        obtain rfl := Option.some.inj hx
        obtain ⟨c, hcj, hat⟩ := hc.at_ ha
        have ht : (cs.take (j + 1)).map (·.name) = (cs.take j).map (·.name) ++ [c.name] := by
          rw [List.take_add_one, hcj, List.map_append]
          rfl
        have hjl := (List.getElem?_eq_some_iff.mp ha).1
        refine ⟨rfl, _, rfl, a, _, rfl, bc_name (s' _ _ hat), _, rfl, rfl, _, rfl, ?_⟩
        by_cases hn : c.name = n
        · refine iteDT (by rw [hn]) ⟨_, rfl, bs.map V.ref, hD, ?_, same_mut s' nD, bs ++ [a], ?_, ?_, ?_⟩
          · have e : sizeLine = 16777216 := by decide
            rw [List.length_map]
            omega
          · rw [upd_same, List.map_append]
            rfl
          · rw [List.length_append]
            show bs.length + 1 ≤ j + 1
            omega
          · rw [ht, hn]
            simp
        · refine iteD (nes hn) ⟨s', bs, hD, by omega, ?_⟩
          rw [ht, hbn]
          simp only [List.mem_append, List.mem_singleton, not_or]
          exact ⟨fun h => ⟨h, fun e => hn e.symm⟩, fun h => h.1⟩
    rintro H1 ⟨s1, bs, hD, hb, hbn⟩
    rw [List.length_map, List.take_of_length_le (by rw [hc.len]; exact Nat.le_refl _)] at hbn
    refine ⟨_, rfl, by show 0 ≤ sizeLine; decide, fun Z nZ => ⟨D, Z, bs.map V.ref, rfl, rfl, sqL_of (same_new nZ _ _ hD), sqL_of upd_same, _, rfl, ?_⟩⟩
    cases bs with
    | nil => exact iteF (k .non _ (s1.trans (same_new nZ)) ⟨fun _ => hbn.mp rfl, fun _ => rfl⟩)
    | cons b bs =>
      refine iteT ⟨_, rfl, D, _, 0, .ref b, rfl, rfl, sqL_of (same_new nZ _ _ hD), at_zero rfl, k (.ref b) _ (s1.trans (same_new nZ)) ⟨(fun h => by cases h), fun h => ?_⟩⟩
      exact absurd (hbn.mpr h) (by intro z; cases z)
-- needs: column_named columns_of_editions +BUTP +BCOL +NEMP +SEQ
/-! _law_column: the column with a name, or None -/
def sp_lcolumnF (K : PySem.W.Frag) : Sp := fun vs H Q _ => ∃ (l : Addr) (as : List Addr) (cs : List Col) (n : Str), vs = [.ref l, .str n] ∧ SqL K H l (as.map V.ref) ∧ BCols H as cs ∧ as.length ≤ 1000 ∧
  (∀ H', Same H H' → cs.find? (isN n) = none → Q .non H') ∧ ∀ (a : Addr) (c : Col) (H' : Hp), Same H H' → cs.find? (isN n) = some c → H' a = some (.dK (colB c)) → Q (.ref a) H'
theorem ok_lcolumnF (T : Tx K mg) : Callee P w K mg base CX0 1 "_law_column" ["_law_cols", "_law_name"] [] (sp_lcolumnF K) := by
  refine mkCallee (fd__law_column T) (mg__law_column T) sc__law_column (fun _ _ _ _ _ _ us hl => match us, hl with | [_, _], _ => rfl) (fun vs H Q E h => ?_) (fun cdv A outer s H vs Q E hr h => ?_)
  · obtain ⟨l, as, cs, n, rfl, _⟩ := h
    rfl
  · obtain ⟨l, as, cs, n, rfl, hl, hc, hlen, kn, ky⟩ := h
    have nd := sc__law_column.nd
    have hu := hu_of hr
    refine ⟨_, (pss_cons (ps_setLc (i := 2) (own := [("_law_col", 3)]) (g := gName 3) (tt := tTest (tOp rEq (tDGet (tVar 3) (tC (.str "name"))) (tVar 1))) (te := tVar 3) rfl nd rfl rfl (by rfl) (pi_list (pv 0)) (blkOk_by (N := ["_law_cols", "_law_name", "_law_found", "_law_col"]) (sc := defScope s__law_column) (by decide +kernel)) (fun _ _ _ _ _ => (pg_name (i := 3) nd rfl (Or.inl rfl))) (fun _ _ _ _ _ => pts_one (pt_cmpR op_eq (pe_dget hu (pv 3) pe_str (fun _ _ => rfl)) (pv 1) (nomark _))) (fun _ _ _ _ _ => (pv 3)))
        (pss_one (ps_ret (pe_ifExp (pt_cmpR (op_neE hr.units) (pv 2) (pe_lst pa_nil) (nomark _)) (pe_ix ix_list (pv 2) pe_int (fun _ _ => rfl)) pe_non)))), ?_⟩
    refine q_asgX ?_
    refine ⟨_, rfl, l, rfl, ⟨_, hl⟩, fun D nD => ?_⟩
    refine lc_list (xs := as.map V.ref) (fun j H' => Same H H' ∧ ∃ bs : List Addr, H' D = some (.lst (bs.map V.ref)) ∧ bs.length ≤ j ∧ (((cs.take j).find? (isN n) = none ∧ bs = []) ∨ ∃ c b r, (cs.take j).find? (isN n) = some c ∧ bs = b :: r ∧ H b = some (.dK (colB c)))) ⟨same_new nD, [], upd_same, Nat.le_refl _, .inl ⟨rfl, rfl⟩⟩ (fun j H' _ q => q.1.seq hl) ?_ ?_
    · rintro j x H' hx ⟨s', bs, hD, hb, hbn⟩
      rw [List.getElem?_map] at hx
      cases ha : as[j]? with
      | none =>
        rw [ha] at hx
        cases hx
      | some a =>
        rw [ha] at hx
        obtain rfl := Option.some.inj hx
        obtain ⟨c, hcj, hat⟩ := hc.at_ ha
        have hjl := (List.getElem?_eq_some_iff.mp ha).1
        have stay : ∀ c0, (cs.take j).find? (isN n) = some c0 → (cs.take (j + 1)).find? (isN n) = some c0 := fun c0 e => by
          rw [List.take_add_one, List.find?_append, e]
          rfl
        refine ⟨rfl, _, rfl, a, _, rfl, bc_name (s' _ _ hat), _, rfl, rfl, _, rfl, ?_⟩
        by_cases hn : c.name = n
        · refine iteDT (by rw [hn]) ⟨_, rfl, bs.map V.ref, hD, ?_, same_mut s' nD, bs ++ [a], ?_, ?_, ?_⟩
          · have e : sizeLine = 16777216 := by decide
            rw [List.length_map]
            omega
          · rw [upd_same, List.map_append]
            rfl
          · rw [List.length_append]
            show bs.length + 1 ≤ j + 1
            omega
          · rcases hbn with ⟨e1, rfl⟩ | ⟨c0, b, r, e1, rfl, e3⟩
            · exact .inr ⟨c, a, [], by rw [find_pre hcj e1, if_pos (show isN n c = true from decide_eq_true hn)], rfl, hat⟩
            · exact .inr ⟨c0, b, r ++ [a], stay _ e1, rfl, e3⟩
        · refine iteD (nes hn) ⟨s', bs, hD, by omega, ?_⟩
          rcases hbn with ⟨e1, rfl⟩ | ⟨c0, b, r, e1, e2, e3⟩
          · exact .inl ⟨by rw [find_pre hcj e1, if_neg (by show ¬ decide (c.name = n) = true; rw [decide_eq_false hn]; decide)], rfl⟩
          · exact .inr ⟨c0, b, r, stay _ e1, e2, e3⟩
    rintro H1 ⟨s1, bs, hD, hb, hbn⟩
    rw [List.length_map, List.take_of_length_le (by rw [hc.len]; exact Nat.le_refl _)] at hbn
    refine ⟨_, rfl, by show 0 ≤ sizeLine; decide, fun Z nZ => ⟨D, Z, bs.map V.ref, rfl, rfl, sqL_of (same_new nZ _ _ hD), sqL_of upd_same, _, rfl, ?_⟩⟩
    rcases hbn with ⟨e1, rfl⟩ | ⟨c0, b, r, e1, rfl, e3⟩
    · exact iteF (kn _ (s1.trans (same_new nZ)) e1)
    · exact iteT ⟨_, rfl, D, _, 0, .ref b, rfl, rfl, sqL_of (same_new nZ _ _ hD), at_zero rfl, ky b c0 _ (s1.trans (same_new nZ)) e1 ((s1.trans (same_new nZ)) _ _ e3)⟩

/-! _law_why: what stands in the way of a change, by a law -/
def sp_why (K : PySem.W.Frag) : Sp := fun vs H Q _ => ∃ (l t : Addr) (as : List Addr) (cl : List Col) (c : Ch), vs = [.ref l, .ref t] ∧ SqL K H l (as.map V.ref) ∧ BCols H as cl ∧ as.length ≤ 1000 ∧ (∀ e ∈ cl, isVal e.dflt = true) ∧ ChAt K H t c ∧ c.fits = true ∧ ∀ H', Same H H' → Q (hindV cl c) H'
theorem in_fit {g : Int} {v : V} (h : isVal v = true) : isIn g v = fitV g v := by
  cases v with
  | non => rfl
  | int i =>
    have h : decide (0 ≤ i) = true := h
    show (decide (0 ≤ i) && decide (i ≤ g)) = decide (i ≤ g)
    rw [h, Bool.true_and]
  | _ => cases h
theorem way_of {way : Str} (h : isWy way = true) : way = "cut" ∨ way = "none" ∨ way = "refuse" := by
  have h : (decide (way = "cut") || (decide (way = "none") || decide (way = "refuse"))) = true := h
  rcases Bool.or_eq_true_iff.mp h with h | h
  · exact .inl (of_decide_eq_true h)
  · rcases Bool.or_eq_true_iff.mp h with h | h
    · exact .inr (.inl (of_decide_eq_true h))
    · exact .inr (.inr (of_decide_eq_true h))
theorem great_bar {n m way : Str} {g : Int} {v : V} (hw : isWy way = true) (hn : n = m) (hv : isVal v = true) : (if chgV m (.great n g way) v = .str "missing" then V.str "default" else .non) = if (decide (way = "refuse") && !fitV g v) = true then .str "default" else .non := by
  unfold chgV
  rw [if_pos (show (Ch.great n g way).name = m from hn)]
  cases v with
  | non =>
    rw [show fitV g .non = true from rfl, Bool.not_true, Bool.and_false]
    rfl
  | int j =>
    show (if (if g < j then abv g way else .int j) = V.str "missing" then V.str "default" else .non) = if (decide (way = "refuse") && !decide (j ≤ g)) = true then V.str "default" else .non
    by_cases q : g < j
    · rw [if_pos q, decide_eq_false (show ¬ j ≤ g by omega), Bool.not_false, Bool.and_true]
      rcases way_of hw with rfl | rfl | rfl
      · have a1 : abv g "cut" = .int g := by unfold abv; rw [if_pos rfl]
        rw [a1, if_neg (by intro z; cases z), decide_eq_false (show ¬ ("cut" : Str) = "refuse" by decide +kernel)]
        rfl
      · have a1 : abv g "none" = .non := by unfold abv; rw [if_neg (show ¬ ("none" : Str) = "cut" by decide +kernel), if_pos rfl]
        rw [a1, if_neg (by intro z; cases z), decide_eq_false (show ¬ ("none" : Str) = "refuse" by decide +kernel)]
        rfl
      · have a1 : abv g "refuse" = .str "missing" := by unfold abv; rw [if_neg (show ¬ ("refuse" : Str) = "cut" by decide +kernel), if_neg (show ¬ ("refuse" : Str) = "none" by decide +kernel)]
        rw [a1, if_pos rfl, decide_eq_true rfl, if_pos rfl]
    · rw [if_neg q, decide_eq_true (show j ≤ g by omega), Bool.not_true, Bool.and_false, if_neg (by intro z; cases z), if_neg (by decide)]
  | _ => cases hv
theorem ok_why (T : Tx K mg) : Callee P w K mg base CX0 2 "_law_why" ["_law_cols", "_law_change_here"] [] (sp_why K) := by
  have C1 := ok_lcolumnF (P := P) (w := w) (base := base) T
  have C2 := ok_fits (P := P) (w := w) (base := base) T
  refine mkCallee (fd__law_why T) (mg__law_why T) sc__law_why (fun _ _ _ _ _ _ us hl => match us, hl with | [_, _], _ => rfl) (fun vs H Q E h => ?_) (fun cdv A outer s H vs Q E hr h => ?_)
  · obtain ⟨l, t, as, cl, c, rfl, _⟩ := h
    rfl
  · obtain ⟨l, t, as, cl, c, rfl, hl, hc, hlen, hd, ht, hf, k⟩ := h
    have nd := sc__law_why.nd
    have hu := hu_of hr
    refine ⟨_, (pss_cons (ps_set (i := 2) nd rfl (Or.inl rfl) (pcall C1 hr (pa_cons (pv 0) (pa_cons (pe_ix ix_tup (pv 1) pe_int (fun _ _ => rfl)) pa_nil))))
        (pss_cons (ps_if (pt_cmpR op_eq (pe_ix ix_tup (pv 1) pe_int (fun _ _ => rfl)) pe_str (nomark _)) (pss_cons (ps_if (pt_cmpR op_notN (pv 2) pe_non (nomark _)) (pss_one (ps_ret pe_str)) pss_nil)
        (pss_one (ps_ret (pe_ifExp (pt_cmpR op_gt (pe_callB call_len (by rfl) (fr_len T) PySem.boot_len (pa_cons (pv 0) pa_nil)) pe_int (nomark _)) pe_str (pe_ifExp (pt_val (pcall C2 hr (pa_cons (pe_ix ix_tup (pv 1) pe_int (fun _ _ => rfl)) (pa_cons (pe_ix ix_tup (pv 1) pe_int (fun _ _ => rfl)) pa_nil)))) pe_non pe_str))))) pss_nil)
        (pss_cons (ps_if (pt_cmpR op_isN (pv 2) pe_non (nomark _)) (pss_one (ps_ret pe_str)) pss_nil)
        (pss_cons (ps_if (pt_cmpR op_eq (pe_ix ix_tup (pv 1) pe_int (fun _ _ => rfl)) pe_str (nomark _)) (pss_one (ps_ret (pe_ifExp (pt_cmpR op_isN (pcall C1 hr (pa_cons (pv 0) (pa_cons (pe_ix ix_tup (pv 1) pe_int (fun _ _ => rfl)) pa_nil))) pe_non (nomark _)) pe_non pe_str))) pss_nil)
        (pss_cons (ps_if (pt_cmpR op_eq (pe_ix ix_tup (pv 1) pe_int (fun _ _ => rfl)) pe_str (nomark _)) (pss_one (ps_ret (pe_ifExp (pt_cmpR op_eq (pe_callB call_len (by rfl) (fr_len T) PySem.boot_len (pa_cons (pv 0) pa_nil)) pe_int (nomark _)) pe_str pe_non))) pss_nil)
        (pss_cons (ps_if (pt_cmpR op_in_seq (pe_ix ix_tup (pv 1) pe_int (fun _ _ => rfl)) (pe_lst (pa_cons pe_str (pa_cons pe_str pa_nil))) (by rfl)) (pss_one (ps_ret (pe_ifExp (pt_val (pcall C2 hr (pa_cons (pe_ix ix_tup (pv 1) pe_int (fun _ _ => rfl)) (pa_cons (pe_dget hu (pv 2) pe_str (fun _ _ => rfl)) pa_nil)))) pe_non pe_str))) pss_nil)
        (pss_one (ps_ret (pe_ifExp (PW.pt (pw_and (pt_cmpR op_eq (pe_ix ix_tup (pv 1) pe_int (fun _ _ => rfl)) pe_str (nomark _)) (pw_and1 (pt_not (pt_val (pcall C2 hr (pa_cons (pe_dget hu (pv 2) pe_str (fun _ _ => rfl)) (pa_cons (pe_ix ix_tup (pv 1) pe_int (fun _ _ => rfl)) pa_nil)))))))) pe_str pe_non))))))))), ?_⟩
    have al := hc.len
    have lenV : ∀ {H'}, Same H H' → LenV K (.ref l) H' as.length := fun {H'} s' => .inl ⟨_, s'.seq hl, by rw [List.length_map]⟩
    refine q_asgX ⟨_, rfl, _, rfl, t, _, 1, _, rfl, rfl, ht, c.at1, l, as, cl, c.name, rfl, hl, hc, hlen, fun H1 s1 hno => ?_, fun a e H1 s1 hfe ha => ?_⟩
    · dsimp only
      have ht1 := same_tup s1 ht
      have kk := k H1 s1
      cases c with
      | add n g d =>
        have hf' : (isNm (.str n) && (isGr (.int g) && isVal d)) = true := hf
        rw [Bool.and_eq_true, Bool.and_eq_true] at hf'
        have hno : cl.find? (isN n) = none := hno
        have e0 : hindV cl (.add n g d) = if 6 ≤ cl.length then .str "many" else if isIn g d = true then .non else .str "above" := by
          show addHind cl n g d = _
          unfold addHind
          rw [hno, if_neg (by decide)]
        rw [e0] at kk
        refine ⟨_, rfl, t, _, 0, _, rfl, rfl, ht1, rfl, rfl, _, rfl, iteDT rfl ⟨_, rfl, rfl, _, rfl, iteNS rfl ⟨_, rfl, _, as.length, rfl, lenV s1, _, _, rfl, rfl, _, rfl, ?_⟩⟩⟩
        by_cases h6 : 6 ≤ cl.length
        · rw [if_pos h6] at kk
          exact iteDT (by omega) kk
        · rw [if_neg h6] at kk
          refine iteD (by omega) ⟨_, rfl, t, _, 3, _, rfl, rfl, ht1, rfl, _, rfl, t, _, 2, _, rfl, rfl, ht1, rfl, d, g, rfl, isVal_ok hf'.2.2, _, rfl, ?_⟩
          rw [in_fit hf'.2.2] at kk
          cases hb : fitV g d <;> rw [hb] at kk <;> exact kk
      | drop n =>
        have hno : cl.find? (isN n) = none := hno
        have e0 : hindV cl (.drop n) = .str "unknown" := by simp only [hindV, hno]
        rw [e0] at kk
        exact ⟨_, rfl, t, _, 0, _, rfl, rfl, ht1, rfl, rfl, _, rfl, iteD (nes (show ("drop" : Str) ≠ "add" by decide +kernel)) ⟨_, rfl, rfl, _, rfl, iteDT rfl kk⟩⟩
      | rename n m =>
        have hno : cl.find? (isN n) = none := hno
        have e0 : hindV cl (.rename n m) = .str "unknown" := by simp only [hindV, hno]
        rw [e0] at kk
        exact ⟨_, rfl, t, _, 0, _, rfl, rfl, ht1, rfl, rfl, _, rfl, iteD (nes (show ("rename" : Str) ≠ "add" by decide +kernel)) ⟨_, rfl, rfl, _, rfl, iteDT rfl kk⟩⟩
      | dflt n d =>
        have hno : cl.find? (isN n) = none := hno
        have e0 : hindV cl (.dflt n d) = .str "unknown" := by simp only [hindV, hno]
        rw [e0] at kk
        exact ⟨_, rfl, t, _, 0, _, rfl, rfl, ht1, rfl, rfl, _, rfl, iteD (nes (show ("default" : Str) ≠ "add" by decide +kernel)) ⟨_, rfl, rfl, _, rfl, iteDT rfl kk⟩⟩
      | great n g way =>
        have hno : cl.find? (isN n) = none := hno
        have e0 : hindV cl (.great n g way) = .str "unknown" := by simp only [hindV, hno]
        rw [e0] at kk
        exact ⟨_, rfl, t, _, 0, _, rfl, rfl, ht1, rfl, rfl, _, rfl, iteD (nes (show ("greatest" : Str) ≠ "add" by decide +kernel)) ⟨_, rfl, rfl, _, rfl, iteDT rfl kk⟩⟩
      | fill n i =>
        have hno : cl.find? (isN n) = none := hno
        have e0 : hindV cl (.fill n i) = .str "unknown" := by simp only [hindV, hno]
        rw [e0] at kk
        exact ⟨_, rfl, t, _, 0, _, rfl, rfl, ht1, rfl, rfl, _, rfl, iteD (nes (show ("fill" : Str) ≠ "add" by decide +kernel)) ⟨_, rfl, rfl, _, rfl, iteDT rfl kk⟩⟩
    · dsimp only
      have ht1 := same_tup s1 ht
      have kk := k H1 s1
      have hdv := hd e (List.mem_of_find?_eq_some hfe)
      have hna : ¬ V.ref a = V.non := fun z => by cases z
      cases c with
      | add n g d =>
        have hfe' : cl.find? (isN n) = some e := hfe
        have e0 : hindV cl (.add n g d) = .str "alive" := by
          show addHind cl n g d = _
          unfold addHind
          rw [hfe']
          rfl
        rw [e0] at kk
        exact ⟨_, rfl, t, _, 0, _, rfl, rfl, ht1, rfl, rfl, _, rfl, iteDT rfl ⟨_, rfl, rfl, _, rfl, iteNF hna kk⟩⟩
      | drop n =>
        have hfe' : cl.find? (isN n) = some e := hfe
        have e0 : hindV cl (.drop n) = if cl.length = 1 then .str "only" else .non := by simp only [hindV, hfe']
        rw [e0] at kk
        refine ⟨_, rfl, t, _, 0, _, rfl, rfl, ht1, rfl, rfl, _, rfl, iteD (nes (show ("drop" : Str) ≠ "add" by decide +kernel)) ⟨_, rfl, rfl, _, rfl, iteD hna ?_⟩⟩
        refine ⟨_, rfl, t, _, 0, _, rfl, rfl, ht1, rfl, rfl, _, rfl, iteD (nes (show ("drop" : Str) ≠ "rename" by decide +kernel)) ?_⟩
        refine ⟨_, rfl, t, _, 0, _, rfl, rfl, ht1, rfl, rfl, _, rfl, iteDT rfl ⟨_, rfl, _, as.length, rfl, lenV s1, rfl, _, rfl, ?_⟩⟩
        by_cases h1 : cl.length = 1
        · rw [if_pos h1] at kk
          exact iteDT (by rw [al, h1]; rfl) kk
        · rw [if_neg h1] at kk
          exact iteD (nei (by omega)) kk
      | rename n m =>
        have hfe' : cl.find? (isN n) = some e := hfe
        have e0 : hindV cl (.rename n m) = if (cl.find? (isN m)).isSome = true then .str "alive" else .non := by simp only [hindV, hfe']
        refine ⟨_, rfl, t, _, 0, _, rfl, rfl, ht1, rfl, rfl, _, rfl, iteD (nes (show ("rename" : Str) ≠ "add" by decide +kernel)) ⟨_, rfl, rfl, _, rfl, iteD hna ?_⟩⟩
        refine ⟨_, rfl, t, _, 0, _, rfl, rfl, ht1, rfl, rfl, _, rfl, iteDT rfl ⟨_, rfl, _, rfl, t, _, 2, _, rfl, rfl, ht1, rfl, l, as, cl, m, rfl, s1.seq hl, hc.keep s1, hlen, fun H2 s2 hno => ?_, fun a2 e2 H2 s2 hf2 ha2 => ?_⟩⟩
        · have kk := k H2 (s1.trans s2)
          rw [e0, hno, if_neg (by intro z; cases z)] at kk
          exact ⟨rfl, _, rfl, iteDT rfl kk⟩
        · have kk := k H2 (s1.trans s2)
          rw [e0, hf2] at kk
          exact ⟨rfl, _, rfl, iteD (fun z => by cases z) kk⟩
      | dflt n d =>
        have hf' : (isNm (.str n) && isVal d) = true := hf
        rw [Bool.and_eq_true] at hf'
        have hfe' : cl.find? (isN n) = some e := hfe
        have e0 : hindV cl (.dflt n d) = if isIn e.top d = true then .non else .str "above" := by simp only [hindV, hfe']
        refine ⟨_, rfl, t, _, 0, _, rfl, rfl, ht1, rfl, rfl, _, rfl, iteD (nes (show ("default" : Str) ≠ "add" by decide +kernel)) ⟨_, rfl, rfl, _, rfl, iteD hna ?_⟩⟩
        refine ⟨_, rfl, t, _, 0, _, rfl, rfl, ht1, rfl, rfl, _, rfl, iteD (nes (show ("default" : Str) ≠ "rename" by decide +kernel)) ?_⟩
        refine ⟨_, rfl, t, _, 0, _, rfl, rfl, ht1, rfl, rfl, _, rfl, iteD (nes (show ("default" : Str) ≠ "drop" by decide +kernel)) ?_⟩
        refine ⟨_, rfl, t, _, 0, _, rfl, rfl, ht1, rfl, by show 2 ≤ sizeLine; decide, fun p np => ⟨p, _, rfl, .inl (sqL_of upd_same), rfl, rfl, _, rfl, iteT ?_⟩⟩
        have s2 : Same H1 (upd H1 p (.lst [.str "default", .str "fill"])) := same_new np
        refine ⟨_, rfl, t, _, 2, _, rfl, rfl, same_tup s2 ht1, rfl, _, rfl, a, _, rfl, bc_g (s2 _ _ ha), d, e.top, rfl, isVal_ok hf'.2, _, rfl, ?_⟩
        have kk := k _ (s1.trans s2)
        rw [e0, in_fit hf'.2] at kk
        cases hb : fitV e.top d <;> rw [hb] at kk <;> exact kk
      | fill n i =>
        have hf' : (isNm (.str n) && isVal (.int i)) = true := hf
        rw [Bool.and_eq_true] at hf'
        have hfe' : cl.find? (isN n) = some e := hfe
        have e0 : hindV cl (.fill n i) = if isIn e.top (.int i) = true then .non else .str "above" := by simp only [hindV, hfe']
        refine ⟨_, rfl, t, _, 0, _, rfl, rfl, ht1, rfl, rfl, _, rfl, iteD (nes (show ("fill" : Str) ≠ "add" by decide +kernel)) ⟨_, rfl, rfl, _, rfl, iteD hna ?_⟩⟩
        refine ⟨_, rfl, t, _, 0, _, rfl, rfl, ht1, rfl, rfl, _, rfl, iteD (nes (show ("fill" : Str) ≠ "rename" by decide +kernel)) ?_⟩
        refine ⟨_, rfl, t, _, 0, _, rfl, rfl, ht1, rfl, rfl, _, rfl, iteD (nes (show ("fill" : Str) ≠ "drop" by decide +kernel)) ?_⟩
        refine ⟨_, rfl, t, _, 0, _, rfl, rfl, ht1, rfl, by show 2 ≤ sizeLine; decide, fun p np => ⟨p, _, rfl, .inl (sqL_of upd_same), rfl, rfl, _, rfl, iteT ?_⟩⟩
        have s2 : Same H1 (upd H1 p (.lst [.str "default", .str "fill"])) := same_new np
        refine ⟨_, rfl, t, _, 2, _, rfl, rfl, same_tup s2 ht1, rfl, _, rfl, a, _, rfl, bc_g (s2 _ _ ha), .int i, e.top, rfl, isVal_ok hf'.2, _, rfl, ?_⟩
        have kk := k _ (s1.trans s2)
        rw [e0, in_fit hf'.2] at kk
        cases hb : fitV e.top (.int i) <;> rw [hb] at kk <;> exact kk
      | great n g way =>
        have hf' : (isNm (.str n) && (isGr (.int g) && isWy way)) = true := hf
        rw [Bool.and_eq_true, Bool.and_eq_true] at hf'
        have hfe' : cl.find? (isN n) = some e := hfe
        have hen0 := List.find?_some hfe'
        have hen : e.name = n := of_decide_eq_true hen0
        have e0 : hindV cl (.great n g way) = if (decide (way = "refuse") && !fitV g e.dflt) = true then .str "default" else .non := by
          have : hindV cl (.great n g way) = if chgV e.name (.great n g way) e.dflt = .str "missing" then .str "default" else .non := by simp only [hindV, hfe']
          rw [this, great_bar hf'.2.2 hen.symm hdv]
        refine ⟨_, rfl, t, _, 0, _, rfl, rfl, ht1, rfl, rfl, _, rfl, iteD (nes (show ("greatest" : Str) ≠ "add" by decide +kernel)) ⟨_, rfl, rfl, _, rfl, iteD hna ?_⟩⟩
        refine ⟨_, rfl, t, _, 0, _, rfl, rfl, ht1, rfl, rfl, _, rfl, iteD (nes (show ("greatest" : Str) ≠ "rename" by decide +kernel)) ?_⟩
        refine ⟨_, rfl, t, _, 0, _, rfl, rfl, ht1, rfl, rfl, _, rfl, iteD (nes (show ("greatest" : Str) ≠ "drop" by decide +kernel)) ?_⟩
        refine ⟨_, rfl, t, _, 0, _, rfl, rfl, ht1, rfl, by show 2 ≤ sizeLine; decide, fun p np => ⟨p, _, rfl, .inl (sqL_of upd_same), rfl, rfl, _, rfl, iteF (nxt ?_)⟩⟩
        have s2 : Same H1 (upd H1 p (.lst [.str "default", .str "fill"])) := same_new np
        have kk := k _ (s1.trans s2)
        rw [e0] at kk
        refine ⟨_, rfl, t, _, 3, _, rfl, rfl, same_tup s2 ht1, rfl, rfl, _, rfl, ?_⟩
        by_cases hw : way = "refuse"
        · rw [decide_eq_true hw, Bool.true_and] at kk
          refine iteDT (by rw [hw]) ⟨_, rfl, a, _, rfl, bc_d (s2 _ _ ha), _, rfl, t, _, 2, _, rfl, rfl, same_tup s2 ht1, rfl, e.dflt, g, rfl, isVal_ok hdv, _, rfl, ?_⟩
          cases hb : fitV g e.dflt <;> rw [hb] at kk <;> exact kk
        · rw [decide_eq_false hw, Bool.false_and, if_neg (by decide)] at kk
          exact iteD (nes hw) (iteF kk)
def narV (g : Int) (way : Str) (v : V) : V := if fitV g v = true then v else if way = "cut" then .int g else if way = "none" then .non else .str "barred"
def narD (g : Int) : List (Key × V) := [(Sum.inr "cut", .int g), (Sum.inr "none", .non), (Sum.inr "refuse", .str "barred")]
theorem narD_vals (g : Int) : mergeK [] (narD g) = narD g ∧ valV (narD g) (Sum.inr "cut") = some (.int g) ∧ valV (narD g) (Sum.inr "none") = some .non ∧ valV (narD g) (Sum.inr "refuse") = some (.str "barred") := by
  have h1 : ¬ ((Sum.inr "cut" : Key) = (Sum.inr "none" : Key)) := by decide +kernel
  have h2 : ¬ ((Sum.inr "cut" : Key) = (Sum.inr "refuse" : Key)) := by decide +kernel
  have h3 : ¬ ((Sum.inr "none" : Key) = (Sum.inr "refuse" : Key)) := by decide +kernel
  unfold narD
  refine ⟨by simp [mergeK, putK, h1, h2, h3], valV_pos rfl, by simp [valV, h1], by simp [valV, h2, h3]⟩
def sp_narrow : Sp := fun vs H Q _ => ∃ (v : V) (g : Int) (way : Str), vs = [v, .int g, .str way] ∧ valOk v = true ∧ isWy way = true ∧ ∀ H', Same H H' → Q (narV g way v) H'
theorem ok_narrow (T : Tx K mg) : Callee P w K mg base CX0 2 "_law_narrow" ["_law_value", "_law_g", "_law_way"] [] sp_narrow := by
  have C1 := ok_fits (P := P) (w := w) (base := base) T
  refine mkCallee (fd__law_narrow T) (mg__law_narrow T) sc__law_narrow (fun _ _ _ _ _ _ us hl => match us, hl with | [_, _, _], _ => rfl) (fun vs H Q E h => ?_) (fun cdv A outer s H vs Q E hr h => ?_)
  · obtain ⟨v, g, way, rfl, _⟩ := h
    rfl
  · obtain ⟨v, g, way, rfl, hv, hw, k⟩ := h
    have hu := hu_of hr
    refine ⟨_, (pss_cons (ps_if (pt_val (pcall C1 hr (pa_cons (pv 0) (pa_cons (pv 1) pa_nil)))) (pss_one (ps_ret (pv 0))) pss_nil)
        (pss_one (ps_ret (pe_dget hu (pe_disp (pps_cons pe_str (pv 1) (pps_cons pe_str pe_non (pps_cons pe_str pe_str pps_nil))) (by rfl) (by rfl) (fun z => by cases z) (by decide)) (pv 2) (fun _ _ => rfl))))), ?_⟩
    refine ⟨_, rfl, _, rfl, v, g, rfl, hv, _, rfl, ?_⟩
    unfold narV at k
    cases hf : fitV g v with
    | true =>
      rw [hf, if_pos rfl] at k
      exact iteT ⟨_, rfl, k H (Same.refl _)⟩
    | false =>
      rw [hf, if_neg (by decide)] at k
      refine iteF (nxt fun q nq => ⟨_, rfl, upd_same, narD g, rfl, (by show 3 ≤ 15; decide), ?_⟩)
      obtain ⟨m0, m1, m2, m3⟩ := narD_vals g
      rw [m0, upd_upd]
      have hg : DGet (upd H q (.dK (narD g))) q (kV (Sum.inr way)) (valV (narD g) (Sum.inr way)) := DGet.k upd_same
      unfold isWy at hw
      rw [Bool.or_eq_true, Bool.or_eq_true, decide_eq_true_iff, decide_eq_true_iff, decide_eq_true_iff] at hw
      have n1 : ¬ (("none" : Str) = "cut") := by decide +kernel
      have n2 : ¬ (("refuse" : Str) = "cut") := by decide +kernel
      have n3 : ¬ (("refuse" : Str) = "none") := by decide +kernel
      rcases hw with rfl | rfl | rfl
      · rw [if_pos rfl] at k
        rw [m1] at hg
        exact ⟨_, rfl, q, _, rfl, hg, k _ (same_new nq)⟩
      · rw [if_neg n1, if_pos rfl] at k
        rw [m2] at hg
        exact ⟨_, rfl, q, _, rfl, hg, k _ (same_new nq)⟩
      · rw [if_neg n2, if_neg n3] at k
        rw [m3] at hg
        exact ⟨_, rfl, q, _, rfl, hg, k _ (same_new nq)⟩
/-! _law_col_after: a column behind a change that can be done -/
/-- a change that can be done leaves no default barred -/
theorem nar_chg {g : Int} {way : Str} {v : V} {n : Str} (hv : valOk v = true) (hm : isMis (chgV n (.great n g way) v) = false) : narV g way v = chgV n (.great n g way) v := by
  unfold chgV at hm ⊢
  rw [if_pos (show (Ch.great n g way).name = n from rfl)] at hm ⊢
  unfold narV
  cases v with
  | non => rfl
  | int j =>
    show (if decide (j ≤ g) = true then V.int j else _) = (if g < j then abv g way else .int j)
    have hm : isMis (if g < j then abv g way else .int j) = false := hm
    by_cases q : g < j
    · rw [if_neg (by rw [decide_eq_false (by omega)]; decide), if_pos q]
      rw [if_pos q] at hm
      unfold abv at hm ⊢
      split
      · rfl
      · rename_i q1
        rw [if_neg q1] at hm
        split
        · rfl
        · rename_i q2
          rw [if_neg q2] at hm
          exact absurd hm (by decide +kernel)
    · rw [if_pos (decide_eq_true (by omega)), if_neg q]
  | _ => cases hv
def colA (c : Col) (ch : Ch) : Col := if c.name = ch.name then chgC c ch else c
theorem colA_no {c : Col} {ch : Ch} (h : ¬ c.name = ch.name) : colA c ch = c := if_neg h
theorem colA_yes {c : Col} {ch : Ch} (h : c.name = ch.name) : colA c ch = chgC c ch := if_pos h
def sp_col_after (K : PySem.W.Frag) : Sp := fun vs H Q _ => ∃ (a t : Addr) (c : Col) (ch : Ch), vs = [.ref a, .ref t] ∧ H a = some (.dK (colB c)) ∧ ChAt K H t ch ∧ ch.fits = true ∧ valOk c.dflt = true ∧ (∀ g way, ch = .great c.name g way → isMis (chgV c.name ch c.dflt) = false) ∧
  ∀ (a' : Addr) (H' : Hp), H a' = none → Same H H' → H' a' = some (.dK (colB (colA c ch))) → Q (.ref a') H'
theorem ok_col_after (T : Tx K mg) : Callee P w K mg base CX0 3 "_law_col_after" ["_law_col", "_law_change_here"] [] (sp_col_after K) := by
  have Cn := ok_narrow (P := P) (w := w) (base := base) T
  refine mkCallee (fd__law_col_after T) (mg__law_col_after T) sc__law_col_after (fun _ _ _ _ _ _ us hl => match us, hl with | [_, _], _ => rfl) (fun vs H Q E h => ?_) (fun cdv A outer s H vs Q E hr h => ?_)
  · obtain ⟨a, t, c, ch, rfl, _⟩ := h
    rfl
  · obtain ⟨a, t, c, ch, rfl, ha, ht, hf, hv, hm, k⟩ := h
    have nd := sc__law_col_after.nd
    have hu := hu_of hr
    refine ⟨_, (pss_cons (ps_set (i := 2) nd rfl (Or.inl rfl) (pe_callTy call_dictD (by rfl) (fr_dict T) (by decide +kernel) (pa_cons (pv 0) pa_nil)))
        (pss_cons (ps_if (pt_cmpR op_ne (pe_ix ix_tup (pv 1) pe_int (fun _ _ => rfl)) (pe_dget hu (pv 0) pe_str (fun _ _ => rfl)) (nomark _)) (pss_one (ps_ret (pv 2))) pss_nil)
        (pss_cons (ps_if (pt_cmpR op_eq (pe_ix ix_tup (pv 1) pe_int (fun _ _ => rfl)) pe_str (nomark _)) (pss_one (ps_dput hu (pv 2) pe_str (pe_ix ix_tup (pv 1) pe_int (fun _ _ => rfl)) rfl)) pss_nil)
        (pss_cons (ps_if (pt_cmpR op_eq (pe_ix ix_tup (pv 1) pe_int (fun _ _ => rfl)) pe_str (nomark _)) (pss_one (ps_dput hu (pv 2) pe_str (pe_ix ix_tup (pv 1) pe_int (fun _ _ => rfl)) rfl)) pss_nil)
        (pss_cons (ps_if (pt_cmpR op_eq (pe_ix ix_tup (pv 1) pe_int (fun _ _ => rfl)) pe_str (nomark _)) (pss_one (ps_asg (pe_tup (pa_cons (pe_ix ix_tup (pv 1) pe_int (fun _ _ => rfl)) (pa_cons (pcall Cn hr (pa_cons (pe_dget hu (pv 0) pe_str (fun _ _ => rfl)) (pa_cons (pe_ix ix_tup (pv 1) pe_int (fun _ _ => rfl)) (pa_cons (pe_ix ix_tup (pv 1) pe_int (fun _ _ => rfl)) pa_nil)))) pa_nil))) (pg_tup rfl (pgs_cons (pg_sub (pv 2) pe_str (set_dict hu)) (pgs_cons (pg_sub (pv 2) pe_str (set_dict hu)) pgs_nil))))) pss_nil)
        (pss_one (ps_ret (pv 2)))))))), ?_⟩
    have hu4 : (4 : Nat) < sizeLine := by decide
    refine q_asgX ⟨_, rfl, a, _, rfl, .inl ha, fun q nq => ?_⟩
    have s1 : Same H (upd H q (.dK (colB c))) := same_new nq
    have hq1 : upd H q (.dK (colB c)) q = some (.dK (colB c)) := upd_same
    have ha1 := s1 _ _ ha
    have ht1 := ht.keep s1
    generalize hH1 : upd H q (.dK (colB c)) = H1 at s1 hq1 ha1 ht1
    have fin : ∀ (H2 : Hp) (o : HO), Same H1 H2 → o = .dK (colB (colA c ch)) → Same H (upd H2 q o) ∧ upd H2 q o q = some (.dK (colB (colA c ch))) := fun H2 o s2 e => ⟨same_mut (s1.trans s2) nq, by rw [upd_same, e]⟩
    refine ⟨_, rfl, t, _, 1, _, rfl, rfl, ht1, ch.at1, _, rfl, a, _, rfl, bc_name ha1, rfl, _, rfl, ?_⟩
    by_cases hn : c.name = ch.name
    · refine iteNS (by rw [hn]) (nxt ?_)
      rw [colA_yes hn] at k fin
      cases ch with
      | add n g d =>
        refine ⟨_, rfl, t, _, 0, _, rfl, rfl, ht1, rfl, rfl, _, rfl, iteD (nes (show ("add" : Str) ≠ "rename" by decide +kernel)) (nxt ?_)⟩
        refine ⟨_, rfl, t, _, 0, _, rfl, rfl, ht1, rfl, rfl, _, rfl, iteD (nes (show ("add" : Str) ≠ "default" by decide +kernel)) (nxt ?_)⟩
        refine ⟨_, rfl, t, _, 0, _, rfl, rfl, ht1, rfl, rfl, _, rfl, iteD (nes (show ("add" : Str) ≠ "greatest" by decide +kernel)) (nxt ?_)⟩
        exact ⟨_, rfl, k q H1 nq s1 hq1⟩
      | drop n =>
        refine ⟨_, rfl, t, _, 0, _, rfl, rfl, ht1, rfl, rfl, _, rfl, iteD (nes (show ("drop" : Str) ≠ "rename" by decide +kernel)) (nxt ?_)⟩
        refine ⟨_, rfl, t, _, 0, _, rfl, rfl, ht1, rfl, rfl, _, rfl, iteD (nes (show ("drop" : Str) ≠ "default" by decide +kernel)) (nxt ?_)⟩
        refine ⟨_, rfl, t, _, 0, _, rfl, rfl, ht1, rfl, rfl, _, rfl, iteD (nes (show ("drop" : Str) ≠ "greatest" by decide +kernel)) (nxt ?_)⟩
        exact ⟨_, rfl, k q H1 nq s1 hq1⟩
      | rename n m =>
        refine ⟨_, rfl, t, _, 0, _, rfl, rfl, ht1, rfl, rfl, _, rfl, iteDT rfl ⟨_, rfl, t, _, 2, _, rfl, rfl, ht1, rfl, _, rfl, q, _, rfl, DPut.k (k := Sum.inr "name") hq1 hu4, ?_⟩⟩
        rw [(colB_put c).1 m]
        obtain ⟨f1, f2⟩ := fin H1 _ (Same.refl _) rfl
        have ht2 := ht.keep f1
        refine ⟨_, rfl, t, _, 0, _, rfl, rfl, ht2, rfl, rfl, _, rfl, iteD (nes (show ("rename" : Str) ≠ "default" by decide +kernel)) (nxt ?_)⟩
        refine ⟨_, rfl, t, _, 0, _, rfl, rfl, ht2, rfl, rfl, _, rfl, iteD (nes (show ("rename" : Str) ≠ "greatest" by decide +kernel)) (nxt ?_)⟩
        exact ⟨_, rfl, k q _ nq f1 f2⟩
      | dflt n v =>
        refine ⟨_, rfl, t, _, 0, _, rfl, rfl, ht1, rfl, rfl, _, rfl, iteD (nes (show ("default" : Str) ≠ "rename" by decide +kernel)) (nxt ?_)⟩
        refine ⟨_, rfl, t, _, 0, _, rfl, rfl, ht1, rfl, rfl, _, rfl, iteDT rfl ⟨_, rfl, t, _, 2, _, rfl, rfl, ht1, rfl, _, rfl, q, _, rfl, DPut.k (k := Sum.inr "d") hq1 hu4, ?_⟩⟩
        rw [(colB_put c).2.2 v]
        obtain ⟨f1, f2⟩ := fin H1 _ (Same.refl _) rfl
        have ht2 := ht.keep f1
        refine ⟨_, rfl, t, _, 0, _, rfl, rfl, ht2, rfl, rfl, _, rfl, iteD (nes (show ("default" : Str) ≠ "greatest" by decide +kernel)) (nxt ?_)⟩
        exact ⟨_, rfl, k q _ nq f1 f2⟩
      | great n g way =>
        have hw : isWy way = true := (Bool.and_eq_true_iff.mp (Bool.and_eq_true_iff.mp hf).2).2
        have hn' : c.name = n := hn
        subst hn'
        refine ⟨_, rfl, t, _, 0, _, rfl, rfl, ht1, rfl, rfl, _, rfl, iteD (nes (show ("greatest" : Str) ≠ "rename" by decide +kernel)) (nxt ?_)⟩
        refine ⟨_, rfl, t, _, 0, _, rfl, rfl, ht1, rfl, rfl, _, rfl, iteD (nes (show ("greatest" : Str) ≠ "default" by decide +kernel)) (nxt ?_)⟩
        refine ⟨_, rfl, t, _, 0, _, rfl, rfl, ht1, rfl, rfl, _, rfl, iteDT rfl ?_⟩
        refine ⟨_, rfl, t, _, 2, _, rfl, rfl, ht1, rfl, _, rfl, a, _, rfl, bc_d ha1, _, rfl, t, _, 2, _, rfl, rfl, ht1, rfl, _, rfl, t, _, 3, _, rfl, rfl, ht1, rfl, _, g, way, rfl, hv, hw, fun H2 s2 => ⟨by show 2 ≤ sizeLine; decide, fun T1 nT1 => ?_⟩⟩
        rw [nar_chg hv (hm g way rfl)]
        have s3 := s2.trans (same_new (o := .tup [.int g, chgV c.name (.great c.name g way) c.dflt]) nT1)
        have hq3 := s3 _ _ hq1
        refine ⟨T1, _, rfl, sqT_of upd_same, rfl, _, _, rfl, _, rfl, q, _, rfl, DPut.k (k := Sum.inr "g") hq3 hu4, ?_⟩
        rw [(colB_put c).2.1 g]
        refine ⟨_, _, rfl, _, rfl, q, _, rfl, DPut.k (k := Sum.inr "d") upd_same hu4, rfl, ?_⟩
        rw [(colB_put _).2.2 _, upd_upd]
        obtain ⟨f1, f2⟩ := fin _ _ s3 rfl
        exact ⟨_, rfl, k q _ nq f1 f2⟩
      | fill n i =>
        refine ⟨_, rfl, t, _, 0, _, rfl, rfl, ht1, rfl, rfl, _, rfl, iteD (nes (show ("fill" : Str) ≠ "rename" by decide +kernel)) (nxt ?_)⟩
        refine ⟨_, rfl, t, _, 0, _, rfl, rfl, ht1, rfl, rfl, _, rfl, iteD (nes (show ("fill" : Str) ≠ "default" by decide +kernel)) (nxt ?_)⟩
        refine ⟨_, rfl, t, _, 0, _, rfl, rfl, ht1, rfl, rfl, _, rfl, iteD (nes (show ("fill" : Str) ≠ "greatest" by decide +kernel)) (nxt ?_)⟩
        exact ⟨_, rfl, k q H1 nq s1 hq1⟩
    · rw [colA_no hn] at k
      exact iteNF (nes (fun e => hn e.symm)) ⟨_, rfl, k q H1 nq s1 hq1⟩
/-! _law_sheet_after: the columns behind a change that can be done -/
theorem hind_free {cs : List Col} {n : Str} {g : Int} {d : V} (h : hindV cs (.add n g d) = .non) : ∀ c ∈ cs, c.name ≠ n := by
  have h : addHind cs n g d = .non := h
  unfold addHind at h
  split at h
  · cases h
  · rename_i q
    intro c hc e
    refine q ?_
    rw [List.find?_isSome]
    exact ⟨c, hc, decide_eq_true e⟩
theorem hind_great {cs : List Col} {c : Col} {g : Int} {way : Str} (nd : (cs.map (·.name)).Nodup) (hc : c ∈ cs) (h : hindV cs (.great c.name g way) = .non) : isMis (chgV c.name (.great c.name g way) c.dflt) = false := by
  have hf := find_uniq nd hc rfl
  have h : (match cs.find? (isN c.name) with
    | none => V.str "unknown"
    | some e => if chgV e.name (.great c.name g way) e.dflt = V.str "missing" then V.str "default" else V.non) = V.non := h
  rw [hf] at h
  have h : (if chgV c.name (.great c.name g way) c.dflt = V.str "missing" then V.str "default" else V.non) = V.non := h
  split at h
  · cases h
  · rename_i q
    cases e : chgV c.name (.great c.name g way) c.dflt with
    | str z =>
      show decide (z = "missing") = false
      rw [e] at q
      exact decide_eq_false (fun z2 => q (by rw [z2]))
    | _ => rfl
/-- a column that stays -/
theorem colR_stays {cs : List Col} {ch : Ch} {c : Col} (hc : c ∈ cs) (hz : hindV cs ch = .non) (h : ch.kind = "drop" → c.name ≠ ch.name) : colR ch c = [colA c ch] := by
  cases ch with
  | add n g d =>
    rw [colA_no (hind_free hz c hc)]
    rfl
  | drop n =>
    have hn : c.name ≠ n := h rfl
    rw [colA_no hn]
    exact if_neg hn
  | _ => rfl
theorem colR_goes {n : Str} {c : Col} (h : c.name = n) : colR (.drop n) c = [] := if_pos h
def sp_sheet_after (K : PySem.W.Frag) : Sp := fun vs H Q _ => ∃ (l t : Addr) (as : List Addr) (cs : List Col) (ch : Ch) (num : Int), vs = [.ref l, .ref t, .int num] ∧ SqL K H l (as.map V.ref) ∧ BCols H as cs ∧ ChAt K H t ch ∧ Good cs num ∧ ch.fits = true ∧ hindV cs ch = .non ∧
  ∀ (l' : Addr) (as' : List Addr) (H' : Hp), H l' = none → Same H H' → H' l' = some (.lst (as'.map V.ref)) → BCols H' as' (behind cs ch num) → Q (.ref l') H'
theorem ok_sheet_after (T : Tx K mg) : Callee P w K mg base CX0 4 "_law_sheet_after" ["_law_cols", "_law_change_here", "_law_count"] [] (sp_sheet_after K) := by
  have Ca := ok_col_after (P := P) (w := w) (base := base) T
  refine mkCallee (fd__law_sheet_after T) (mg__law_sheet_after T) sc__law_sheet_after (fun _ _ _ _ _ _ us hl => match us, hl with | [_, _, _], _ => rfl) (fun vs H Q E h => ?_) (fun cdv A outer s H vs Q E hr h => ?_)
  · obtain ⟨l, t, as, cs, ch, num, rfl, _⟩ := h
    rfl
  · obtain ⟨l, t, as, cs, ch, num, rfl, hl, hc, ht, g, hf, hz, k⟩ := h
    have nd := sc__law_sheet_after.nd
    have hu := hu_of hr
    refine ⟨_, (pss_cons (ps_setLc (i := 3) (own := [("_law_col", 4)]) (g := gName 4) (tt := tOr (tTest (tOp rNe (tOp (rIxT K) (tVar 1) (tC (.int 0))) (tC (.str "drop")))) (tTest (tOp rNe (tDGet (tVar 4) (tC (.str "name"))) (tOp (rIxT K) (tVar 1) (tC (.int 1)))))) (te := tCall (sp_col_after K) [] E0 (tCons (tVar 4) (tCons (tVar 1) tNil))) rfl nd rfl rfl (by rfl) (pi_list (pv 0)) (blkOk_by (N := ["_law_cols", "_law_change_here", "_law_count", "_law_found", "_law_col"]) (sc := defScope s__law_sheet_after) (by decide +kernel)) (fun _ _ _ _ _ => (pg_name (i := 4) nd rfl (Or.inl rfl))) (fun _ _ _ _ _ => pts_one (PW.pt (pw_or (pt_cmpR op_ne (pe_ix ix_tup (pv 1) pe_int (fun _ _ => rfl)) pe_str (nomark _)) (pw_or1 (pt_cmpR op_ne (pe_dget hu (pv 4) pe_str (fun _ _ => rfl)) (pe_ix ix_tup (pv 1) pe_int (fun _ _ => rfl)) (nomark _)))))) (fun _ _ _ _ _ => (pcall Ca hr (pa_cons (pv 4) (pa_cons (pv 1) pa_nil)))))
        (pss_cons (ps_if (pt_cmpR op_eq (pe_ix ix_tup (pv 1) pe_int (fun _ _ => rfl)) pe_str (nomark _)) (pss_one (ps_set (i := 3) nd rfl (Or.inl rfl) (pe_op op_cat (pv 3) (pe_lst (pa_cons (pe_disp (pps_cons pe_str (pe_ix ix_tup (pv 1) pe_int (fun _ _ => rfl)) (pps_cons pe_str (pe_ix ix_tup (pv 1) pe_int (fun _ _ => rfl)) (pps_cons pe_str (pe_ix ix_tup (pv 1) pe_int (fun _ _ => rfl)) (pps_cons pe_str (pv 2) pps_nil)))) (by rfl) (by rfl) (fun z => by cases z) (by decide)) pa_nil))))) pss_nil)
        (pss_one (ps_ret (pv 3))))), ?_⟩
    have hal : as.length ≤ 6 := by rw [hc.len]; exact g.six
    refine q_asgX ?_
    refine ⟨_, rfl, l, rfl, ⟨_, hl⟩, fun D nD => ?_⟩
    refine lc_list (xs := as.map V.ref) (fun j H' => Same H H' ∧ ∃ bs : List Addr, H' D = some (.lst (bs.map V.ref)) ∧ bs.length ≤ j ∧ BCols H' bs ((cs.take j).flatMap (colR ch))) ⟨same_new nD, [], upd_same, Nat.le_refl _, .nil⟩ (fun j H' _ q => q.1.seq hl) ?_ ?_
    · rintro j x H' hx ⟨s', bs, hD, hb, hbs⟩
      rw [List.getElem?_map] at hx
      cases ha : as[j]? with
      | none =>
        rw [ha] at hx
        cases hx
      | some a =>
        rw [ha] at hx
        obtain rfl := Option.some.inj hx
        obtain ⟨c, hcj, hat⟩ := hc.at_ ha
        have hcm := List.mem_of_getElem? hcj
        have hjl := (List.getElem?_eq_some_iff.mp ha).1
        have hte : (cs.take (j + 1)).flatMap (colR ch) = (cs.take j).flatMap (colR ch) ++ colR ch c := by
          rw [List.take_add_one, hcj, List.flatMap_append]
          congr 1
          show List.flatMap (colR ch) [c] = _
          rw [List.flatMap_cons, List.flatMap_nil, List.append_nil]
        have hat' := s' _ _ hat
        have ht' := ht.keep s'
        have stay : (ch.kind = "drop" → c.name ≠ ch.name) → tCall (sp_col_after K) [] E0 (tCons (tVar 4) (tCons (tVar 1) tNil)) [some (.ref l), some (.ref t), some (.int num), none, some (.ref a)] H' fun y H4 => ∃ acc, H4 D = some (.lst acc) ∧ acc.length < sizeLine ∧ (Same H (upd H4 D (.lst (acc ++ [y]))) ∧ ∃ bs : List Addr, upd H4 D (.lst (acc ++ [y])) D = some (.lst (bs.map V.ref)) ∧ bs.length ≤ j + 1 ∧ BCols (upd H4 D (.lst (acc ++ [y]))) bs ((cs.take (j + 1)).flatMap (colR ch))) := fun hst => by
          refine ⟨_, rfl, _, rfl, a, t, c, ch, rfl, hat', ht', hf, ?_, fun gg way e => ?_, fun a' H2 na s2 ha' => ?_⟩
          · have := (g.ok c hcm).1.df
            cases hd : c.dflt with
            | non => rfl
            | int _ => rfl
            | _ => rw [hd] at this; cases this
          · rw [e] at hz ⊢
            exact hind_great g.names hcm hz
          · have hD2 := s2 _ _ hD
            have kn := KeepNL.lst hD2 (ys := bs.map V.ref ++ [.ref a'])
            refine ⟨bs.map V.ref, hD2, ?_, same_mut (s'.trans s2) nD, bs ++ [a'], ?_, ?_, ?_⟩
            · have e : sizeLine = 16777216 := by decide
              rw [List.length_map]
              omega
            · rw [upd_same, List.map_append]
              rfl
            · rw [List.length_append]
              show bs.length + 1 ≤ j + 1
              omega
            · rw [hte, colR_stays hcm hz hst]
              exact ((hbs.keep s2).keepN kn).app (.cons (kn _ _ (fun _ z => by cases z) ha') .nil)
        refine ⟨rfl, _, rfl, t, _, 0, _, rfl, rfl, ht', ch.at0, rfl, _, rfl, ?_⟩
        by_cases hk : ch.kind = "drop"
        · refine iteNS (by rw [hk]) ⟨_, rfl, a, _, rfl, bc_name hat', _, rfl, t, _, 1, _, rfl, rfl, ht', ch.at1, rfl, _, rfl, ?_⟩
          by_cases hn : c.name = ch.name
          · refine iteNS (by rw [hn]) ⟨s', bs, hD, by omega, ?_⟩
            cases ch with
            | drop n =>
              have hn : c.name = n := hn
              rw [hte, colR_goes hn, List.append_nil]
              exact hbs
            | add _ _ _ => exact absurd (show ("add" : Str) = "drop" from hk) (by decide +kernel)
            | rename _ _ => exact absurd (show ("rename" : Str) = "drop" from hk) (by decide +kernel)
            | dflt _ _ => exact absurd (show ("default" : Str) = "drop" from hk) (by decide +kernel)
            | great _ _ _ => exact absurd (show ("greatest" : Str) = "drop" from hk) (by decide +kernel)
            | fill _ _ => exact absurd (show ("fill" : Str) = "drop" from hk) (by decide +kernel)
          · exact iteNF (nes hn) (stay fun _ => hn)
        · exact iteNF (nes hk) (stay fun e => absurd e hk)
    rintro H1 ⟨s1, bs, hD, hb, hbs⟩
    rw [List.length_map] at hb
    rw [List.length_map, List.take_of_length_le (by rw [hc.len]; exact Nat.le_refl _)] at hbs
    have ht1 := ht.keep s1
    refine ⟨_, rfl, t, _, 0, _, rfl, rfl, ht1, ch.at0, rfl, _, rfl, ?_⟩
    by_cases hk : ch.kind = "add"
    · cases ch with
      | add n gr d =>
        refine iteDT rfl ?_
        refine ⟨_, rfl, fun q nq => ⟨_, rfl, t, _, 1, _, rfl, rfl, same_tup (same_new nq) ht1, rfl, _, rfl, t, _, 2, _, rfl, rfl, same_tup (same_new nq) ht1, rfl, _, rfl, t, _, 3, _, rfl, rfl, same_tup (same_new nq) ht1, rfl, _, rfl, upd_same, [(Sum.inr "name", .str n), (Sum.inr "g", .int gr), (Sum.inr "d", d), (Sum.inr "n", .int num)], rfl, (by show 4 ≤ 15; decide), ?_⟩⟩
        rw [colB_merge, upd_upd]
        refine ⟨by show 1 ≤ sizeLine; decide, fun u nu => ⟨D, u, _, _, rfl, rfl, same_new nu _ _ (same_new nq _ _ hD), upd_same, ?_, fun l2 nl2 => ?_⟩⟩
        · have e : sizeLine = 16777216 := by decide
          rw [List.length_map]
          show _ + 1 ≤ _
          omega
        · have s2 : Same H1 (upd (upd (upd H1 q (.dK (colB ⟨n, gr, d, num⟩))) u (.lst [.ref q])) l2 (.lst (bs.map V.ref ++ [.ref q]))) := ((same_new nq).trans (same_new nu)).trans (same_new nl2)
          have hq : upd (upd (upd H1 q (.dK (colB ⟨n, gr, d, num⟩))) u (.lst [.ref q])) l2 (.lst (bs.map V.ref ++ [.ref q])) q = some (.dK (colB ⟨n, gr, d, num⟩)) := (same_new nl2) _ _ ((same_new nu) _ _ upd_same)
          refine ⟨_, rfl, k l2 (bs ++ [q]) _ ?_ (s1.trans s2) ?_ ?_⟩
          · exact s1.free ((same_new nq).free ((same_new nu).free nl2))
          · rw [upd_same, List.map_append]
            rfl
          · rw [behind_flat]
            exact (hbs.keep s2).app (.cons hq .nil)
      | drop _ => exact absurd (show ("drop" : Str) = "add" from hk) (by decide +kernel)
      | rename _ _ => exact absurd (show ("rename" : Str) = "add" from hk) (by decide +kernel)
      | dflt _ _ => exact absurd (show ("default" : Str) = "add" from hk) (by decide +kernel)
      | great _ _ _ => exact absurd (show ("greatest" : Str) = "add" from hk) (by decide +kernel)
      | fill _ _ => exact absurd (show ("fill" : Str) = "add" from hk) (by decide +kernel)
    · refine iteD (nes hk) (nxt ⟨_, rfl, k D bs H1 nD s1 hD ?_⟩)
      rw [behind_flat]
      cases ch with
      | add _ _ _ => exact absurd rfl hk
      | _ => exact (by show BCols H1 bs (_ ++ []); rw [List.append_nil]; exact hbs)
/-! greatest values bounded: of the first columns and of the changes, so of all columns -/
def Ch.upTo (top : Int) : Ch → Prop
  | .add _ g _ => g ≤ top
  | .great _ g _ => g ≤ top
  | _ => True
def UpTo (top : Int) (cs : List Col) (chs : List Ch) : Prop := (∀ c ∈ cs, c.top ≤ top) ∧ ∀ ch ∈ chs, ch.upTo top
theorem UpTo.mono {a b : Int} {cs : List Col} {chs : List Ch} (h : a ≤ b) (u : UpTo a cs chs) : UpTo b cs chs := ⟨fun c hc => Int.le_trans (u.1 c hc) h, fun ch hc => by
  have := u.2 ch hc
  cases ch with
  | add _ g _ => exact Int.le_trans this h
  | great _ g _ => exact Int.le_trans this h
  | _ => exact True.intro⟩

/-! _law_change: a drawn change that can be done -/
section
variable {cs : List Col} {c : Col} {n : Str} {g : Int} {d : V}
theorem hz_add (hf : n ∉ cs.map (·.name)) (hl : cs.length < 6) (hd : isIn g d = true) : hindV cs (.add n g d) = .non := by
  show addHind cs n g d = .non
  unfold addHind
  have e : cs.find? (isN n) = none := by
    rw [List.find?_eq_none]
    intro x hx hn
    exact hf (List.mem_map.mpr ⟨x, hx, of_decide_eq_true hn⟩)
  rw [e, if_neg (by decide), if_neg (by omega), if_pos hd]
theorem hz_drop (nd : (cs.map (·.name)).Nodup) (hc : c ∈ cs) (hl : 1 < cs.length) : hindV cs (.drop c.name) = .non := by
  show (match cs.find? (isN c.name) with
    | none => V.str "unknown"
    | some _ => if cs.length = 1 then .str "only" else .non) = .non
  rw [find_uniq nd hc rfl]
  exact if_neg (by omega)
theorem hz_rename (nd : (cs.map (·.name)).Nodup) (hc : c ∈ cs) (hf : n ∉ cs.map (·.name)) : hindV cs (.rename c.name n) = .non := by
  show (match cs.find? (isN c.name) with
    | none => V.str "unknown"
    | some _ => if (cs.find? (isN n)).isSome = true then V.str "alive" else .non) = .non
  rw [find_uniq nd hc rfl]
  have e : cs.find? (isN n) = none := by
    rw [List.find?_eq_none]
    intro x hx hn
    exact hf (List.mem_map.mpr ⟨x, hx, of_decide_eq_true hn⟩)
  show (if (cs.find? (isN n)).isSome = true then V.str "alive" else .non) = .non
  rw [e]
  rfl
theorem hz_dflt (nd : (cs.map (·.name)).Nodup) (hc : c ∈ cs) (hd : isIn c.top d = true) : hindV cs (.dflt c.name d) = .non := by
  show (match cs.find? (isN c.name) with
    | none => V.str "unknown"
    | some e => if isIn e.top d = true then V.non else .str "above") = .non
  rw [find_uniq nd hc rfl]
  exact if_pos hd
theorem hz_fill {i : Int} (nd : (cs.map (·.name)).Nodup) (hc : c ∈ cs) (hd : isIn c.top (.int i) = true) : hindV cs (.fill c.name i) = .non := by
  show (match cs.find? (isN c.name) with
    | none => V.str "unknown"
    | some e => if isIn e.top (.int i) = true then V.non else .str "above") = .non
  rw [find_uniq nd hc rfl]
  exact if_pos hd
theorem hz_great {way : Str} (nd : (cs.map (·.name)).Nodup) (hc : c ∈ cs) (hv : isIn c.top c.dflt = true) (hw : way = "cut" ∨ way = "none" ∨ fitV g c.dflt = true) : hindV cs (.great c.name g way) = .non := by
  show (match cs.find? (isN c.name) with
    | none => V.str "unknown"
    | some e => if chgV e.name (.great c.name g way) e.dflt = V.str "missing" then V.str "default" else .non) = .non
  rw [find_uniq nd hc rfl]
  refine if_neg fun e => ?_
  unfold chgV at e
  rw [if_pos (show (Ch.great c.name g way).name = c.name from rfl)] at e
  cases hd : c.dflt with
  | non => rw [hd] at e; cases e
  | int j =>
    rw [hd] at e hw
    have e : (if g < j then abv g way else .int j) = V.str "missing" := e
    split at e
    · rename_i q
      unfold abv at e
      rcases hw with rfl | rfl | hw
      · rw [if_pos rfl] at e
        cases e
      · rw [if_neg (by decide +kernel), if_pos rfl] at e
        cases e
      · have hw : decide (j ≤ g) = true := hw
        have := of_decide_eq_true hw
        omega
    · cases e
  | _ => rw [hd] at hv; cases hv
end
/-- two lists of names: one that does not fit into the other has a name of its own -/
theorem free_name {ws ns : List Str} (nd : ws.Nodup) (h : ns.length < ws.length) : ws.filter (fun w => decide (w ∉ ns)) ≠ [] := fun e => by
  have q : ws ⊆ ns := fun w hw => by
    have := List.filter_eq_nil_iff.mp e w hw
    simpa using this
  have := nd.length_le_of_subset q
  omega
def isFree (cs : List Col) : V → Bool
  | .str n => decide (n ∉ cs.map (·.name))
  | _ => false
theorem free_map {cs : List Col} {ws : List Str} : ((ws.map V.str).filter (isFree cs)).map (fun v => v) = (ws.filter fun w => decide (w ∉ cs.map (·.name))).map V.str := by
  rw [List.map_id', List.filter_map]
  rfl
def sp_changeL (K : PySem.W.Frag) : Sp := fun vs H Q _ => ∃ (p lc wd : Addr) (as : List Addr) (cs : List Col) (ws : List Str) (z0 z1 top num : Int), vs = [.ref p, .ref lc, .ref wd, .int top] ∧ H p = some (.lst [.int z0, .int z1]) ∧ H lc = some (.lst (as.map V.ref)) ∧ BCols H as cs ∧ H wd = some (.lst (ws.map V.str)) ∧ WordsOk ws ∧ Good cs num ∧ 1 ≤ top ∧ top ≤ 99 ∧
  ∀ (t : Addr) (ch : Ch) (y0 y1 : Int) (H' : Hp), ch.upTo top → ch.fits = true → hindV cs ch = .non → But p H H' → H' p = some (.lst [.int y0, .int y1]) → ChAt K H' t ch → Q (.ref t) H'
theorem ok_changeL (T : Tx K mg) : Callee P w K mg base CX0 3 "_law_change" ["_law_pool_here", "_law_cols", "_law_words", "_law_top"] [] (sp_changeL K) := by
  have Cp := ok_pick (P := P) (w := w) (base := base) T
  have Cd := (ok_draw (P := P) (w := w) (base := base) T).up (show 1 ≤ 2 by decide)
  have Cc := (ok_lcolumn (P := P) (w := w) (base := base) T).up (show 1 ≤ 2 by decide)
  have Cf := (ok_fits (P := P) (w := w) (base := base) T).up (show 1 ≤ 2 by decide)
  have Cs := ok_some (P := P) (w := w) (base := base) T
  refine mkCallee (fd__law_change T) (mg__law_change T) sc__law_change (fun _ _ _ _ _ _ us hl => match us, hl with | [_, _, _, _], _ => rfl) (fun vs H Q E h => ?_) (fun cdv A outer s H vs Q E hr h => ?_)
  · obtain ⟨p, lc, wd, as, cs, ws, z0, z1, top, num, rfl, _⟩ := h
    rfl
  · obtain ⟨p, lc, wd, as, cs, ws, z0, z1, top, num, rfl, hp, hl, hc, hw, W, G, t1, t9, k⟩ := h
    have nd := sc__law_change.nd
    have hu := hu_of hr
    refine ⟨_, (pss_cons (ps_set (i := 4) nd rfl (Or.inl rfl) (pcall Cp hr (pa_cons (pv 0) (pa_cons (pe_lst (pa_cons pe_str (pa_cons pe_str (pa_cons pe_str (pa_cons pe_str (pa_cons pe_str (pa_cons pe_str (pa_cons pe_str (pa_cons pe_str (pa_cons pe_str pa_nil)))))))))) pa_nil))))
        (pss_cons (ps_par (i := 5) (j := 6) rfl nd rfl rfl (by decide) rfl rfl (pa_cons (pcall Cp hr (pa_cons (pv 0) (pa_cons (pv 1) pa_nil))) (pa_cons (pe_op op_add pe_int (pcall Cd hr (pa_cons (pv 0) (pa_cons (pv 3) pa_nil)))) pa_nil)) (by rfl))
        (pss_cons (ps_setLc (i := 7) (own := [("_law_word", 9)]) (g := gName 9) (tt := tTest (tOp (fun x y H Q => y = .non ∧ Q (.bl (decide (x = .non))) H) (tCall (sp_lcolumn K) [] E0 (tCons (tVar 1) (tCons (tVar 9) tNil))) (tC .non))) (te := tVar 9) rfl nd rfl rfl (by rfl) (pi_list (pv 2)) (blkOk_by (N := ["_law_pool_here", "_law_cols", "_law_words", "_law_top", "_law_kind", "_law_col", "_law_g", "_law_free", "_law_way", "_law_word"]) (sc := defScope s__law_change) (by decide +kernel)) (fun _ _ _ _ _ => (pg_name (i := 9) nd rfl (Or.inl rfl))) (fun _ _ _ _ _ => pts_one (pt_cmpR op_isN (pcall Cc hr (pa_cons (pv 1) (pa_cons (pv 9) pa_nil))) pe_non (nomark _))) (fun _ _ _ _ _ => (pv 9)))
        (pss_cons (ps_if (PW.pt (pw_and (pt_cmpR op_eq (pv 4) pe_str (nomark _)) (pw_and1 (pt_cmpR op_lt (pe_callB call_len (by rfl) (fr_len T) PySem.boot_len (pa_cons (pv 1) pa_nil)) pe_int (nomark _))))) (pss_one (ps_ret (pe_tup (pa_cons pe_str (pa_cons (pcall Cp hr (pa_cons (pv 0) (pa_cons (pv 7) pa_nil))) (pa_cons (pv 6) (pa_cons (pcall Cs hr (pa_cons (pv 0) (pa_cons (pv 6) pa_nil))) pa_nil))))))) pss_nil)
        (pss_cons (ps_if (PW.pt (pw_and (pt_cmpR op_eq (pv 4) pe_str (nomark _)) (pw_and1 (pt_cmpR op_gt (pe_callB call_len (by rfl) (fr_len T) PySem.boot_len (pa_cons (pv 1) pa_nil)) pe_int (nomark _))))) (pss_one (ps_ret (pe_tup (pa_cons pe_str (pa_cons (pe_dget hu (pv 5) pe_str (fun _ _ => rfl)) pa_nil))))) pss_nil)
        (pss_cons (ps_if (pt_cmpR op_eq (pv 4) pe_str (nomark _)) (pss_one (ps_ret (pe_tup (pa_cons pe_str (pa_cons (pe_dget hu (pv 5) pe_str (fun _ _ => rfl)) (pa_cons (pcall Cp hr (pa_cons (pv 0) (pa_cons (pv 7) pa_nil))) pa_nil)))))) pss_nil)
        (pss_cons (ps_if (pt_cmpR op_eq (pv 4) pe_str (nomark _)) (pss_one (ps_ret (pe_tup (pa_cons pe_str (pa_cons (pe_dget hu (pv 5) pe_str (fun _ _ => rfl)) (pa_cons (pcall Cs hr (pa_cons (pv 0) (pa_cons (pe_dget hu (pv 5) pe_str (fun _ _ => rfl)) pa_nil))) pa_nil)))))) pss_nil)
        (pss_cons (ps_if (pt_cmpR op_eq (pv 4) pe_str (nomark _)) (pss_one (ps_ret (pe_tup (pa_cons pe_str (pa_cons (pe_dget hu (pv 5) pe_str (fun _ _ => rfl)) (pa_cons (pcall Cd hr (pa_cons (pv 0) (pa_cons (pe_op op_add (pe_dget hu (pv 5) pe_str (fun _ _ => rfl)) pe_int) pa_nil))) pa_nil)))))) pss_nil)
        (pss_cons (ps_set (i := 8) nd rfl (Or.inl rfl) (pcall Cp hr (pa_cons (pv 0) (pa_cons (pe_lst (pa_cons pe_str (pa_cons pe_str (pa_cons pe_str pa_nil)))) pa_nil))))
        (pss_cons (ps_if (PW.pt (pw_and (pt_cmpR op_eq (pv 8) pe_str (nomark _)) (pw_and1 (pt_not (pt_val (pcall Cf hr (pa_cons (pe_dget hu (pv 5) pe_str (fun _ _ => rfl)) (pa_cons (pv 6) pa_nil)))))))) (pss_one (ps_ret (pe_tup (pa_cons pe_str (pa_cons (pe_dget hu (pv 5) pe_str (fun _ _ => rfl)) (pa_cons (pv 6) (pa_cons pe_str pa_nil))))))) pss_nil)
        (pss_one (ps_ret (pe_tup (pa_cons pe_str (pa_cons (pe_dget hu (pv 5) pe_str (fun _ _ => rfl)) (pa_cons (pv 6) (pa_cons (pv 8) pa_nil))))))))))))))))), ?_⟩
    -- the kind
    refine q_asgX ⟨_, rfl, (by show 9 ≤ sizeLine; decide), fun l nl => ?_⟩
    refine ⟨p, l, z0, z1, _, rfl, same_new nl _ _ hp, upd_same, npool0 hp nl, (by show 0 < 9; decide), (by show 9 < 1000000; decide), fun x y0 y1 hx => ?_⟩
    have b1 : But p H (upd (upd H l (.lst [.str "add", .str "drop", .str "rename", .str "default", .str "greatest", .str "greatest", .str "greatest", .str "fill", .str "fill"])) p (.lst [.int y0, .int y1])) := (But.of (same_new nl)).trans But.mut
    have p1 : upd (upd H l (.lst [.str "add", .str "drop", .str "rename", .str "default", .str "greatest", .str "greatest", .str "greatest", .str "fill", .str "fill"])) p (.lst [.int y0, .int y1]) p = some (.lst [.int y0, .int y1]) := upd_same
    generalize upd (upd H l (.lst [.str "add", .str "drop", .str "rename", .str "default", .str "greatest", .str "greatest", .str "greatest", .str "fill", .str "fill"])) p (.lst [.int y0, .int y1]) = H1 at b1 p1
    have hx' : x = .str "add" ∨ x = .str "drop" ∨ x = .str "rename" ∨ x = .str "default" ∨ x = .str "greatest" ∨ x = .str "fill" := by
      simp only [List.mem_cons, List.not_mem_nil, or_false] at hx
      rcases hx with h | h | h | h | h | h | h | h | h <;> simp [h]
    clear hx
    have l1 := refsL_but hp b1 hl
    have c1 := hc.but hp b1
    have w1 := strsL_but hp b1 hw
    dsimp only
    have nlp : lc ≠ p := fun e => by
      rw [e, p1] at l1
      exact refs_no (HO.lst.inj (Option.some.inj l1)).symm
    have G1 := G.one
    have G6 := G.six
    have cl := c1.len
    -- the column and the greatest
    refine ⟨_, rfl, _, rfl, p, lc, y0, y1, _, rfl, p1, l1, nlp, by rw [List.length_map]; omega, by rw [List.length_map]; omega, fun xc v0 v1 hxc => ⟨_, rfl, _, rfl, p, v0, v1, top, rfl, upd_same, by omega, by omega, fun g u0 u1 g0 g1 => ⟨_, _, rfl, rfl, _, _, rfl, ?_⟩⟩⟩
    rw [upd_upd]
    have bb : But p H1 (upd H1 p (.lst [.int u0, .int u1])) := But.mut
    have b2 := b1.trans bb
    have p2 : upd H1 p (.lst [.int u0, .int u1]) p = some (.lst [.int u0, .int u1]) := upd_same
    have l2 := refsL_but p1 bb l1
    have c2 := c1.but p1 bb
    have w2 := strsL_but p1 bb w1
    generalize upd H1 p (.lst [.int u0, .int u1]) = H2 at b2 p2 l2 c2 w2 ⊢
    clear bb p1 l1 c1 w1 b1
    obtain ⟨a, ha, rfl⟩ := List.mem_map.mp hxc
    obtain ⟨j, hj⟩ := List.mem_iff_getElem?.mp ha
    obtain ⟨c, hcj, hca⟩ := c2.at_ hj
    have hcm := List.mem_of_getElem? hcj
    have okc := (G.ok c hcm).1
    dsimp only
    -- the free words
    refine q_asgX (tlc_L (xs := ws.map V.str) (isFree cs) (fun v => v) (fun R h => ⟨_, rfl, h wd H2 (Same.refl _) (sqL_of w2)⟩) (by rw [List.length_map, W.len]; decide) (fun _ => rfl) (fun x hx H' s' R h => ?_) (fun x hx _ H' s' R h => ⟨_, rfl, h H' (Same.refl _)⟩) fun D H3 nD s3 hD => ?_)
    · obtain ⟨n, hn, rfl⟩ := List.mem_map.mp hx
      refine ⟨_, rfl, _, rfl, lc, as, cs, n, rfl, sqL_of (s' _ _ l2), c2.keep s', by omega, fun v H4 s4 hv => ⟨rfl, _, rfl, ?_⟩⟩
      have e : decide (v = V.non) = isFree cs (.str n) := decide_eq_decide.mpr hv
      rw [e]
      exact h H4 s4
    have p3 := s3 _ _ p2
    have l3 := s3 _ _ l2
    have w3 := s3 _ _ w2
    have c3 := c2.keep s3
    have a3 := s3 _ _ hca
    have b3 := b2.trans (But.of s3)
    rw [free_map] at hD
    have hfr : (ws.filter fun w => decide (w ∉ cs.map (·.name))) ≠ [] := free_name W.nd (by rw [List.length_map, W.len]; omega)
    have hfm : ∀ n ∈ ws.filter (fun w => decide (w ∉ cs.map (·.name))), isNm (.str n) = true ∧ n ∉ cs.map (·.name) := fun n hn => by
      obtain ⟨h1, h2⟩ := List.mem_filter.mp hn
      exact ⟨W.nm n h1, of_decide_eq_true h2⟩
    have hfw : (ws.filter fun w => decide (w ∉ cs.map (·.name))).length ≤ 9 := by
      rw [← W.len]
      exact List.length_filter_le _ _
    generalize (ws.filter fun w => decide (w ∉ cs.map (·.name))) = fs at hD hfr hfm hfw
    have nDp : D ≠ p := npool0 p2 nD
    have hfl : 0 < (fs.map V.str).length := by
      rw [List.length_map]
      exact List.length_pos_iff.mpr hfr
    have hfl2 : (fs.map V.str).length < 1000000 := by
      rw [List.length_map]
      omega
    clear s3 c2 w2 l2 hca p2 b2 nD
    obtain ⟨z, rfl, hz⟩ : ∃ z : Str, x = .str z ∧ (z = "add" ∨ z = "drop" ∨ z = "rename" ∨ z = "default" ∨ z = "greatest" ∨ z = "fill") := by
      rcases hx' with h | h | h | h | h | h <;> exact ⟨_, h, by simp⟩
    clear hx'
    have vn : isNm (.str c.name) = true := okc.nm
    have hdv : valOk c.dflt = true := by
      have := okc.df
      cases hd : c.dflt with
      | non => rfl
      | int _ => rfl
      | _ => rw [hd] at this; cases this
    -- add
    refine s_seq (fun σ' H' => σ' = [some (.ref p), some (.ref lc), some (.ref wd), some (.int top), some (.str z), some (.ref a), some (.int (1 + g)), some (.ref D), none, none] ∧ H' = H3) ?_ ?_
    rotate_left
    · intro kk
      by_cases hk : z = "add"
      · refine ⟨_, rfl, rfl, _, rfl, iteDT (by rw [hk]) ⟨_, rfl, _, as.length, rfl, .inl ⟨_, sqL_of l3, by rw [List.length_map]⟩, _, _, rfl, rfl, _, rfl, ?_⟩⟩
        by_cases h4 : (as.length : Int) < 4
        · rw [decide_eq_true h4]
          refine iteT ⟨_, rfl, _, rfl, p, D, u0, u1, _, rfl, p3, hD, nDp, hfl, hfl2, fun xn v0 v1 hxn => ⟨_, rfl, _, rfl, _, rfl, p, v0, v1, 1 + g, rfl, upd_same, by omega, by omega, fun v q0 q1 H5 hv b5 p5 => ⟨(by show 4 ≤ sizeLine; decide), fun t nt => ?_⟩⟩⟩
          obtain ⟨n, hn, rfl⟩ := List.mem_map.mp hxn
          refine k t (.add n (1 + g) v) q0 q1 _ (by show 1 + g ≤ top; omega) ?_ (hz_add (hfm n hn).2 (by omega) hv) (((b3.trans But.mut).trans b5).trans (But.of (same_new nt))) (same_new nt _ _ p5) (sqT_of upd_same)
          show (isNm (.str n) && ((decide (1 ≤ 1 + g) && decide (1 + g ≤ 99)) && isVal v)) = true
          rw [(hfm n hn).1, in_val hv, decide_eq_true (by omega), decide_eq_true (by omega)]
          rfl
        · rw [decide_eq_false h4]
          exact iteF (kk _ _ ⟨rfl, rfl⟩)
      · exact ⟨_, rfl, rfl, _, rfl, iteD (nes hk) (iteF (kk _ _ ⟨rfl, rfl⟩))⟩
    intro σ' H' ⟨e1, e2⟩
    rw [e1, e2]
    clear e1 e2
    have gr : 1 ≤ c.top ∧ c.top ≤ 99 := by
      have q : (decide (1 ≤ c.top) && decide (c.top ≤ 99)) = true := okc.gr
      rw [Bool.and_eq_true] at q
      exact ⟨of_decide_eq_true q.1, of_decide_eq_true q.2⟩
    have gr1 := gr.1
    have gr2 := gr.2
    have nap : a ≠ p := fun e => by
      rw [e, p3] at a3
      cases a3
    -- drop
    refine s_seq (fun σ' H' => σ' = [some (.ref p), some (.ref lc), some (.ref wd), some (.int top), some (.str z), some (.ref a), some (.int (1 + g)), some (.ref D), none, none] ∧ H' = H3) ?_ ?_
    rotate_left
    · intro kk
      by_cases hk : z = "drop"
      · refine ⟨_, rfl, rfl, _, rfl, iteDT (by rw [hk]) ⟨_, rfl, _, as.length, rfl, .inl ⟨_, sqL_of l3, by rw [List.length_map]⟩, _, _, rfl, rfl, _, rfl, ?_⟩⟩
        by_cases h1 : (1 : Int) < as.length
        · rw [decide_eq_true h1]
          refine iteT ⟨_, rfl, a, _, rfl, bc_name a3, (by show 2 ≤ sizeLine; decide), fun t nt => ?_⟩
          exact k t (.drop c.name) u0 u1 _ True.intro vn (hz_drop G.names hcm (by omega)) (b3.trans (But.of (same_new nt))) (same_new nt _ _ p3) (sqT_of upd_same)
        · rw [decide_eq_false h1]
          exact iteF (kk _ _ ⟨rfl, rfl⟩)
      · exact ⟨_, rfl, rfl, _, rfl, iteD (nes hk) (iteF (kk _ _ ⟨rfl, rfl⟩))⟩
    intro σ' H' ⟨e1, e2⟩
    rw [e1, e2]
    clear e1 e2
    -- rename
    by_cases hk : z = "rename"
    · refine ⟨_, rfl, rfl, _, rfl, iteDT (by rw [hk]) ⟨_, rfl, a, _, rfl, bc_name a3, _, rfl, _, rfl, p, D, u0, u1, _, rfl, p3, hD, nDp, hfl, hfl2, fun xn v0 v1 hxn => ⟨(by show 3 ≤ sizeLine; decide), fun t nt => ?_⟩⟩⟩
      obtain ⟨n, hn, rfl⟩ := List.mem_map.mp hxn
      refine k t (.rename c.name n) v0 v1 _ True.intro ?_ (hz_rename G.names hcm (hfm n hn).2) ((b3.trans But.mut).trans (But.of (same_new nt))) (same_new nt _ _ upd_same) (sqT_of upd_same)
      show (isNm (.str c.name) && isNm (.str n)) = true
      rw [vn, (hfm n hn).1]
      rfl
    refine ⟨_, rfl, rfl, _, rfl, iteD (nes hk) (nxt ?_)⟩
    -- default
    by_cases hk2 : z = "default"
    · refine ⟨_, rfl, rfl, _, rfl, iteDT (by rw [hk2]) ⟨_, rfl, a, _, rfl, bc_name a3, _, rfl, _, rfl, a, _, rfl, bc_g a3, p, u0, u1, c.top, rfl, p3, by omega, by omega, fun v q0 q1 H5 hv b5 p5 => ⟨(by show 3 ≤ sizeLine; decide), fun t nt => ?_⟩⟩⟩
      refine k t (.dflt c.name v) q0 q1 _ True.intro ?_ (hz_dflt G.names hcm hv) ((b3.trans b5).trans (But.of (same_new nt))) (same_new nt _ _ p5) (sqT_of upd_same)
      show (isNm (.str c.name) && isVal v) = true
      rw [vn, in_val hv]
      rfl
    refine ⟨_, rfl, rfl, _, rfl, iteD (nes hk2) (nxt ?_)⟩
    -- fill
    by_cases hk3 : z = "fill"
    · refine ⟨_, rfl, rfl, _, rfl, iteDT (by rw [hk3]) ⟨_, rfl, a, _, rfl, bc_name a3, _, rfl, _, rfl, a, _, rfl, bc_g a3, _, _, rfl, rfl, p, u0, u1, _, rfl, p3, by omega, by omega, fun r q0 q1 r0 r1 => ⟨(by show 3 ≤ sizeLine; decide), fun t nt => ?_⟩⟩⟩
      refine k t (.fill c.name r) q0 q1 _ True.intro ?_ (hz_fill G.names hcm ?_) ((b3.trans But.mut).trans (But.of (same_new nt))) (same_new nt _ _ upd_same) (sqT_of upd_same)
      · show (isNm (.str c.name) && decide (0 ≤ r)) = true
        rw [vn, decide_eq_true r0]
        rfl
      · show (decide (0 ≤ r) && decide (r ≤ c.top)) = true
        rw [decide_eq_true r0, decide_eq_true (by omega)]
        rfl
    refine ⟨_, rfl, rfl, _, rfl, iteD (nes hk3) (nxt ?_)⟩
    -- greatest
    dsimp only
    refine q_asgX ⟨_, rfl, (by show 3 ≤ sizeLine; decide), fun l2 nl2 => ⟨p, l2, u0, u1, _, rfl, same_new nl2 _ _ p3, upd_same, npool0 p3 nl2, (by show 0 < 3; decide), (by show 3 < 1000000; decide), fun xw q0 q1 hxw => ?_⟩⟩
    have bb : But p H3 (upd (upd H3 l2 (.lst [.str "cut", .str "none", .str "refuse"])) p (.lst [.int q0, .int q1])) := (But.of (same_new nl2)).trans But.mut
    have p4 : upd (upd H3 l2 (.lst [.str "cut", .str "none", .str "refuse"])) p (.lst [.int q0, .int q1]) p = some (.lst [.int q0, .int q1]) := upd_same
    have a4 := bb _ _ nap a3
    have b4 := b3.trans bb
    generalize upd (upd H3 l2 (.lst [.str "cut", .str "none", .str "refuse"])) p (.lst [.int q0, .int q1]) = H4 at b4 p4 a4 ⊢
    clear bb
    obtain ⟨wy, rfl, hwy⟩ : ∃ wy : Str, xw = .str wy ∧ (wy = "cut" ∨ wy = "none" ∨ wy = "refuse") := by
      simp only [List.mem_cons, List.not_mem_nil, or_false] at hxw
      rcases hxw with h | h | h <;> exact ⟨_, h, by simp⟩
    have hgr : ∀ (t : Addr) (way : Str), isWy way = true → (way = "cut" ∨ way = "none" ∨ fitV (1 + g) c.dflt = true) → H4 t = none → Q (.ref t) (upd H4 t (.tup [.str "greatest", .str c.name, .int (1 + g), .str way])) := fun t way hw hv nt => by
      refine k t (.great c.name (1 + g) way) q0 q1 _ (by show 1 + g ≤ top; omega) ?_ (hz_great G.names hcm okc.df hv) (b4.trans (But.of (same_new nt))) (same_new nt _ _ p4) (sqT_of upd_same)
      show (isNm (.str c.name) && ((decide (1 ≤ 1 + g) && decide (1 + g ≤ 99)) && isWy way)) = true
      rw [vn, hw, decide_eq_true (by omega), decide_eq_true (by omega)]
      rfl
    have hwi : isWy wy = true := by
      rcases hwy with rfl | rfl | rfl <;> decide +kernel
    dsimp only
    refine s_seq (fun σ' H' => (wy = "cut" ∨ wy = "none" ∨ fitV (1 + g) c.dflt = true) ∧ σ' = [some (.ref p), some (.ref lc), some (.ref wd), some (.int top), some (.str z), some (.ref a), some (.int (1 + g)), some (.ref D), some (.str wy), none] ∧ H' = H4) ?_ ?_
    rotate_left
    · intro kk
      by_cases hr2 : wy = "refuse"
      · refine ⟨_, rfl, rfl, _, rfl, iteDT (by rw [hr2]) ⟨_, rfl, a, _, rfl, bc_d a4, _, rfl, c.dflt, 1 + g, rfl, hdv, _, rfl, ?_⟩⟩
        cases hfv : fitV (1 + g) c.dflt with
        | true => exact iteF (kk _ _ ⟨.inr (.inr hfv), rfl, rfl⟩)
        | false =>
          refine iteT ⟨_, rfl, a, _, rfl, bc_name a4, _, rfl, (by show 4 ≤ sizeLine; decide), fun t nt => ?_⟩
          exact hgr t "cut" (by decide +kernel) (.inl rfl) nt
      · refine ⟨_, rfl, rfl, _, rfl, iteD (nes hr2) (iteF (kk _ _ ⟨?_, rfl, rfl⟩))⟩
        rcases hwy with h | h | h
        · exact .inl h
        · exact .inr (.inl h)
        · exact absurd h hr2
    intro σ' H' ⟨hv, e1, e2⟩
    rw [e1, e2]
    refine ⟨_, rfl, a, _, rfl, bc_name a4, _, rfl, _, rfl, (by show 4 ≤ sizeLine; decide), fun t nt => ?_⟩
    exact hgr t wy hwi hv nt
/-! _law_longer: the history with one change more -/
def sp_longer (K : PySem.W.Frag) : Sp := fun vs H Q _ => ∃ (h t : Addr) (cs : List Col) (chs : List Ch) (ws : List Str) (ch : Ch), vs = [.ref h, .ref t] ∧ BhAt K H h cs chs ws ∧ ChAt K H t ch ∧ Good (atC cs chs).1 (atC cs chs).2 ∧ ch.fits = true ∧ hindV (atC cs chs).1 ch = .non ∧ chs.length ≤ 1000 ∧
  ∀ (h' : Addr) (H' : Hp), H h' = none → Same H H' → BhAt K H' h' cs (chs ++ [ch]) ws → Q (.ref h') H'
theorem ok_longer (T : Tx K mg) : Callee P w K mg base CX0 5 "_law_longer" ["_law_h", "_law_change_here"] [] (sp_longer K) := by
  have Cs := ok_sheet_after (P := P) (w := w) (base := base) T
  refine mkCallee (fd__law_longer T) (mg__law_longer T) sc__law_longer (fun _ _ _ _ _ _ us hl => match us, hl with | [_, _], _ => rfl) (fun vs H Q E h => ?_) (fun cdv A outer s H vs Q E hr h => ?_)
  · obtain ⟨h, t, cs, chs, ws, ch, rfl, _⟩ := h
    rfl
  · obtain ⟨h, t, cs, chs, ws, ch, rfl, hh, ht, g, hf, hz, few, k⟩ := h
    have nd := sc__law_longer.nd
    have hu := hu_of hr
    refine ⟨_, (pss_cons (ps_set (i := 2) nd rfl (Or.inl rfl) (pe_callTy call_dictD (by rfl) (fr_dict T) (by decide +kernel) (pa_cons (pv 0) pa_nil)))
        (pss_cons (ps_dput hu (pv 2) pe_str (pe_op op_cat (pe_dget hu (pv 0) pe_str (fun _ _ => rfl)) (pe_lst (pa_cons (pcall Cs hr (pa_cons (pe_ix ix_list (pe_dget hu (pv 0) pe_str (fun _ _ => rfl)) (pe_un un_neg pe_int) (fun _ _ => rfl)) (pa_cons (pv 1) (pa_cons (pe_dget hu (pv 0) pe_str (fun _ _ => rfl)) pa_nil)))) pa_nil))) rfl)
        (pss_cons (ps_dput hu (pv 2) pe_str (pe_op op_cat (pe_dget hu (pv 0) pe_str (fun _ _ => rfl)) (pe_lst (pa_cons (pv 1) pa_nil))) rfl)
        (pss_cons (ps_dput hu (pv 2) pe_str (pe_op op_add (pe_dget hu (pv 0) pe_str (fun _ _ => rfl)) (pe_callTy call_int1 (by rfl) (fr_int T) (by decide +kernel) (pa_cons (pe_cmpR op_eq (pe_ix ix_tup (pv 1) pe_int (fun _ _ => rfl)) pe_str (nomark _)) pa_nil))) rfl)
        (pss_one (ps_ret (pv 2))))))), ?_⟩
    have hsl : sizeLine = 16777216 := by decide
    obtain ⟨sh, cg, wd, es, ts, h1, h2, h3, h4, h5, h6⟩ := id hh
    have hel : es.length = chs.length + 1 := by rw [h3.1, edsTo_len]
    have htl : ts.length = chs.length := h5.len
    have hem : es[chs.length]? = some (es[chs.length]'(by omega)) := List.getElem?_eq_getElem (by omega)
    obtain ⟨as, hea, hec⟩ := h3.2 _ _ _ hem (edsTo_get (by omega))
    rw [List.take_length] at hec
    refine q_asgX ⟨_, rfl, h, _, rfl, .inl h1, fun q nq => ?_⟩
    have s1 : Same H (upd H q (.dK (bhDict sh cg (atC cs chs).2 wd))) := same_new nq
    have hq1 : upd H q (.dK (bhDict sh cg (atC cs chs).2 wd)) q = some (.dK (bhDict sh cg (atC cs chs).2 wd)) := upd_same
    generalize upd H q (.dK (bhDict sh cg (atC cs chs).2 wd)) = H1 at s1 hq1 ⊢
    refine ⟨_, rfl, h, _, rfl, bh_sheets (s1 _ _ h1), _, rfl, h, _, rfl, bh_sheets (s1 _ _ h1), 1, rfl, sh, _, -1, _, rfl, rfl, sqL_of (s1 _ _ h2), at_last hel hem, _, rfl, _, rfl, h, _, rfl, bh_given (s1 _ _ h1), _, t, as, (atC cs chs).1, ch, (atC cs chs).2, rfl, sqL_of (s1 _ _ hea), hec.keep s1, ht.keep s1, g, hf, hz, fun l al H2 nl s2 hl hal => ⟨by show 1 ≤ sizeLine; decide, fun u nu => ?_⟩⟩
    have s12 := s1.trans s2
    have s3 : Same H2 (upd H2 u (.lst [.ref l])) := same_new nu
    refine ⟨sh, u, _, _, rfl, rfl, s3 _ _ (s12 _ _ h2), upd_same, ?_, fun p1 np1 => ?_⟩
    · rw [List.length_map]
      show es.length + 1 ≤ _
      omega
    have s4 : Same H (upd (upd H2 u (.lst [.ref l])) p1 (.lst (es.map V.ref ++ [.ref l]))) := (s12.trans s3).trans (same_new np1)
    have hq4 : upd (upd H2 u (.lst [.ref l])) p1 (.lst (es.map V.ref ++ [.ref l])) q = some (.dK (bhDict sh cg (atC cs chs).2 wd)) := (same_new np1) _ _ (s3 _ _ (s2 _ _ hq1))
    have hp1 : upd (upd H2 u (.lst [.ref l])) p1 (.lst (es.map V.ref ++ [.ref l])) p1 = some (.lst ((es ++ [l]).map V.ref)) := by rw [upd_same, List.map_append]; rfl
    have hl4 : upd (upd H2 u (.lst [.ref l])) p1 (.lst (es.map V.ref ++ [.ref l])) l = some (.lst (al.map V.ref)) := (same_new np1) _ _ (s3 _ _ hl)
    have hal4 : BCols (upd (upd H2 u (.lst [.ref l])) p1 (.lst (es.map V.ref ++ [.ref l]))) al (behind (atC cs chs).1 ch (atC cs chs).2) := (hal.keep s3).keep (same_new np1)
    generalize upd (upd H2 u (.lst [.ref l])) p1 (.lst (es.map V.ref ++ [.ref l])) = H4 at s4 hq4 hp1 hl4 hal4 ⊢
    refine ⟨_, rfl, q, _, rfl, DPut.k (k := Sum.inr "sheets") hq4 (bh_few _ _ _ _), ?_⟩
    rw [(bh_put sh cg _ wd).1 p1]
    -- behind the sheets
    have nq0 : ∀ b o, H b = some o → b ≠ q := fun b o e => ne_of_none e nq
    have n1q : p1 ≠ q := fun z => by rw [z, hq4] at hp1; cases hp1
    have nlq : l ≠ q := fun z => by rw [z, hq4] at hl4; cases hl4
    have S5 : Same H (upd H4 q (.dK (bhDict p1 cg (atC cs chs).2 wd))) := same_mut s4 nq
    have kt5 : KeepT H4 (upd H4 q (.dK (bhDict p1 cg (atC cs chs).2 wd))) := KeepT.dct hq4
    have hp5 : upd H4 q (.dK (bhDict p1 cg (atC cs chs).2 wd)) p1 = some (.lst ((es ++ [l]).map V.ref)) := by rw [upd_ne n1q]; exact hp1
    have hl5 : upd H4 q (.dK (bhDict p1 cg (atC cs chs).2 wd)) l = some (.lst (al.map V.ref)) := by rw [upd_ne nlq]; exact hl4
    have hal5 : BCols (upd H4 q (.dK (bhDict p1 cg (atC cs chs).2 wd))) al (behind (atC cs chs).1 ch (atC cs chs).2) := by
      have : ∀ {as : List Addr} {ds : List Col}, BCols H4 as ds → BCols (upd H4 q (.dK (bhDict p1 cg (atC cs chs).2 wd))) as ds := by
        intro as ds b
        induction b with
        | nil => exact .nil
        | @cons a' as' c' cs' ha hb ih =>
          refine .cons ?_ ih
          rw [upd_ne (fun z => by
            rw [z, hq4] at ha
            have e := congrArg (fun o : HO => match o with | .dK kvs => valV kvs (Sum.inr "name") | _ => none) (Option.some.inj ha)
            have e1 : valV (bhDict sh cg (atC cs chs).2 wd) (Sum.inr "name") = valV (colB c') (Sum.inr "name") := e
            rw [(colB_vals c').1, bh_noname] at e1
            cases e1)]
          exact ha
      exact this hal4
    have hq5 : upd H4 q (.dK (bhDict p1 cg (atC cs chs).2 wd)) q = some (.dK (bhDict p1 cg (atC cs chs).2 wd)) := upd_same
    generalize upd H4 q (.dK (bhDict p1 cg (atC cs chs).2 wd)) = H5 at S5 kt5 hp5 hl5 hal5 hq5 ⊢
    refine ⟨_, rfl, h, _, rfl, bh_changes (S5 _ _ h1), _, rfl, by show 1 ≤ sizeLine; decide, fun u2 nu2 => ?_⟩
    refine ⟨cg, u2, _, _, rfl, rfl, (same_new nu2) _ _ (S5 _ _ h4), upd_same, ?_, fun p2 np2 => ?_⟩
    · rw [List.length_map]
      show ts.length + 1 ≤ _
      omega
    have s6 : Same H5 (upd (upd H5 u2 (.lst [.ref t])) p2 (.lst (ts.map V.ref ++ [.ref t]))) := (same_new nu2).trans (same_new np2)
    have hp2 : upd (upd H5 u2 (.lst [.ref t])) p2 (.lst (ts.map V.ref ++ [.ref t])) p2 = some (.lst ((ts ++ [t]).map V.ref)) := by rw [upd_same, List.map_append]; rfl
    generalize upd (upd H5 u2 (.lst [.ref t])) p2 (.lst (ts.map V.ref ++ [.ref t])) = H6 at s6 hp2 ⊢
    have hq6 := s6 _ _ hq5
    refine ⟨_, rfl, q, _, rfl, DPut.k (k := Sum.inr "changes") hq6 (bh_few _ _ _ _), ?_⟩
    rw [(bh_put p1 cg _ wd).2.1 p2]
    have S7 : Same H (upd H6 q (.dK (bhDict p1 p2 (atC cs chs).2 wd))) := same_mut (S5.trans s6) nq
    refine ⟨_, rfl, h, _, rfl, bh_given (S7 _ _ h1), _, rfl, t, _, 0, _, rfl, rfl, ht.keep S7, ch.at0, rfl, .inr ⟨_, rfl, _, _, rfl, rfl, _, rfl, q, _, rfl, DPut.k (k := Sum.inr "given") upd_same (bh_few _ _ _ _), ?_⟩⟩
    rw [(bh_put p1 p2 _ wd).2.2, upd_upd]
    have hv : (atC cs chs).2 + (if decide (V.str ch.kind = V.str "add") = true then 1 else 0) = (atC cs (chs ++ [ch])).2 := by
      rw [atC_app]
      by_cases hk : ch.kind = "add"
      · rw [if_pos (decide_eq_true (by rw [hk])), kind_add hk]
      · rw [if_neg (by rw [decide_eq_false (nes hk)]; decide), kind_noadd hk, Int.add_zero]
    rw [hv]
    have S8 : Same H (upd H6 q (.dK (bhDict p1 p2 (atC cs (chs ++ [ch])).2 wd))) := same_mut (S5.trans s6) nq
    have up : ∀ {b : Addr} {zs : List V}, H6 b = some (.lst zs) → upd H6 q (.dK (bhDict p1 p2 (atC cs (chs ++ [ch])).2 wd)) b = some (.lst zs) := fun {b zs} e => by
      rw [upd_ne (fun z => by rw [z, hq6] at e; cases e)]
      exact e
    refine ⟨_, rfl, k q _ nq S8 ⟨p1, p2, wd, es ++ [l], ts ++ [t], upd_same, up (s6 _ _ hp5), ?_, up hp2, ?_, h6.keep S8⟩⟩
    · rw [edsTo_app]
      refine ⟨by rw [List.length_append, List.length_append, h3.1]; rfl, fun i e ci hi hci => ?_⟩
      by_cases hil : i < es.length
      · rw [List.getElem?_append_left hil] at hi
        rw [List.getElem?_append_left (by rw [← h3.1]; exact hil)] at hci
        obtain ⟨as', k1, k2⟩ := h3.2 i e ci hi hci
        exact ⟨as', S8 _ _ k1, k2.keep S8⟩
      · have hie : i = es.length := by
          have h := (List.getElem?_eq_some_iff.mp hi).1
          rw [List.length_append] at h
          have : [l].length = 1 := rfl
          omega
        subst hie
        rw [List.getElem?_append_right (Nat.le_refl _), Nat.sub_self] at hi
        obtain rfl := Option.some.inj hi
        rw [List.getElem?_append_right (by rw [h3.1]; exact Nat.le_refl _), h3.1, Nat.sub_self] at hci
        obtain rfl := Option.some.inj hci
        refine ⟨al, up (s6 _ _ hl5), ?_⟩
        have b6 := hal5.keep s6
        have : ∀ {as : List Addr} {ds : List Col}, BCols H6 as ds → BCols (upd H6 q (.dK (bhDict p1 p2 (atC cs (chs ++ [ch])).2 wd))) as ds := by
          intro as ds b
          induction b with
          | nil => exact .nil
          | @cons a' as' c' cs' ha hb ih =>
            refine .cons ?_ ih
            rw [upd_ne (fun z => by
              rw [z, hq6] at ha
              have e := congrArg (fun o : HO => match o with | .dK kvs => valV kvs (Sum.inr "name") | _ => none) (Option.some.inj ha)
              have e1 : valV (bhDict p1 cg (atC cs chs).2 wd) (Sum.inr "name") = valV (colB c') (Sum.inr "name") := e
              rw [(colB_vals c').1, bh_noname] at e1
              cases e1)]
            exact ha
        exact this b6
    · exact (h5.keep S8).app (.cons (ht.keep S8) .nil)
/-! _law_history of the second set: drawn, each change one that can be done -/
def sp_historyL (K : PySem.W.Frag) : Sp := fun vs H Q _ => ∃ (p : Addr) (z0 z1 m top many : Int), vs = [.ref p, .int m, .int top, .int many] ∧ H p = some (.lst [.int z0, .int z1]) ∧ 1 ≤ m ∧ m ≤ 6 ∧ 1 ≤ top ∧ top ≤ 99 ∧ 0 ≤ many ∧ many ≤ 40 ∧
  ∀ (h : Addr) (cs : List Col) (chs : List Ch) (ws : List Str) (y0 y1 : Int) (H' : Hp), But p H H' → H' p = some (.lst [.int y0, .int y1]) → BhAt K H' h cs chs ws → WordsOk ws → HistOk cs chs → (chs.length : Int) ≤ many → ((cs.length : Int) ≤ m ∧ UpTo top cs chs) → Q (.ref h) H'
theorem ok_historyL (T : Tx K mg) : Callee P w K mg base CX0 6 "_law_history" ["_law_pool_here", "_law_count_most", "_law_top", "_law_many"] [] (sp_historyL K) := by
  have Ccs := (ok_columnsL (P := P) (w := w) (base := base) T).up (show 4 ≤ 5 by decide)
  have Cd := (ok_draw (P := P) (w := w) (base := base) T).up (show 1 ≤ 5 by decide)
  have Cc := (ok_changeL (P := P) (w := w) (base := base) T).up (show 3 ≤ 5 by decide)
  have Cl := ok_longer (P := P) (w := w) (base := base) T
  refine mkCallee (fd__law_history T) (mg__law_history T) sc__law_history (fun _ _ _ _ _ _ us hl => match us, hl with | [_, _, _, _], _ => rfl) (fun vs H Q E h => ?_) (fun cdv A outer s H vs Q E hr h => ?_)
  · obtain ⟨p, z0, z1, m, top, many, rfl, _⟩ := h
    rfl
  · obtain ⟨p, z0, z1, m, top, many, rfl, hp, m1, m6, t1, t9, n0, n4, k⟩ := h
    have nd := sc__law_history.nd
    have hu := hu_of hr
    refine ⟨_, (pss_cons (ps_asg (pcall Ccs hr (pa_cons (pv 0) (pa_cons (pv 1) (pa_cons (pv 2) pa_nil)))) (pg_lst rfl (pgs_cons (pg_name (i := 4) nd rfl (Or.inl rfl)) (pgs_cons (pg_name (i := 5) nd rfl (Or.inl rfl)) pgs_nil))))
        (pss_cons (ps_set (i := 6) nd rfl (Or.inl rfl) (pe_disp (pps_cons pe_str (pe_lst (pa_cons (pv 4) pa_nil)) (pps_cons pe_str (pe_lst pa_nil) (pps_cons pe_str (pe_callB call_len (by rfl) (fr_len T) PySem.boot_len (pa_cons (pv 4) pa_nil)) (pps_cons pe_str (pv 5) pps_nil)))) (by rfl) (by rfl) (fun z => by cases z) (by decide)))
        (pss_cons (ps_for PassesOwn.never rfl (pi_range1 (by rfl) (fr_range T) (pa_cons (pcall Cd hr (pa_cons (pv 0) (pa_cons (pe_op op_add (pv 3) pe_int) pa_nil))) pa_nil)) (pg_name (i := 7) nd rfl (Or.inl rfl)) (pss_one (ps_set (i := 6) nd rfl (Or.inl rfl) (pcall Cl hr (pa_cons (pv 6) (pa_cons (pcall Cc hr (pa_cons (pv 0) (pa_cons (pe_ix ix_list (pe_dget hu (pv 6) pe_str (fun _ _ => rfl)) (pe_un un_neg pe_int) (fun _ _ => rfl)) (pa_cons (pv 5) (pa_cons (pv 2) pa_nil))))) pa_nil))))))
        (pss_one (ps_ret (pv 6)))))), ?_⟩
    have hsl : sizeLine = 16777216 := by decide
    refine ⟨_, rfl, _, rfl, _, rfl, p, z0, z1, m, top, rfl, hp, m1, m6, t1, t9, fun r l wd as cs ws y0 y1 H1 b1 p1 r1 l1 c1 w1 W pl G lm => ⟨r, _, rfl, sqL_of r1, rfl, _, _, rfl, _, _, rfl, rfl, ?_⟩⟩
    dsimp only
    refine q_asgX fun q nq => ?_
    have G1 := G.one
    have G6 := G.six
    have cl := c1.len
    have sq : Same H1 (upd H1 q (.dK [])) := same_new nq
    have q1 : upd H1 q (.dK []) q = some (.dK []) := upd_same
    generalize upd H1 q (.dK []) = H2 at sq q1 ⊢
    refine ⟨_, rfl, by show 1 ≤ sizeLine; decide, fun sh nsh => ⟨by show 0 ≤ sizeLine; decide, fun ca nca => ?_⟩⟩
    have s2 : Same H2 (upd (upd H2 sh (.lst [.ref l])) ca (.lst [])) := (same_new nsh).trans (same_new nca)
    have sh2 : upd (upd H2 sh (.lst [.ref l])) ca (.lst []) sh = some (.lst [.ref l]) := same_new nca _ _ upd_same
    have ca2 : upd (upd H2 sh (.lst [.ref l])) ca (.lst []) ca = some (.lst []) := upd_same
    have s12 := sq.trans s2
    refine ⟨_, rfl, _, as.length, rfl, .inl ⟨_, sqL_of (s12 _ _ l1), by rw [List.length_map]⟩, _, rfl, s2 _ _ q1, [(Sum.inr "sheets", .ref sh), (Sum.inr "changes", .ref ca), (Sum.inr "given", .int (as.length : Nat)), (Sum.inr "words", .ref wd)], rfl, by show 4 ≤ 15; decide, ?_⟩
    rw [bh_merge]
    have b13 : But p H1 (upd (upd (upd H2 sh (.lst [.ref l])) ca (.lst [])) q (.dK (bhDict sh ca as.length (some wd)))) := fun b o hb e => by
      rw [upd_ne (ne_of_none e nq)]
      exact s12 _ _ e
    have qp : q ≠ p := npool0 p1 nq
    have p3 : upd (upd (upd H2 sh (.lst [.ref l])) ca (.lst [])) q (.dK (bhDict sh ca as.length (some wd))) p = some (.lst [.int y0, .int y1]) := by
      rw [upd_ne qp.symm]
      exact s12 _ _ p1
    have nsq : sh ≠ q := fun e => by rw [e, q1] at nsh; cases nsh
    have ncq : ca ≠ q := fun e => by
      rw [e, (same_new (o := .lst [.ref l]) nsh) _ _ q1] at nca
      cases nca
    have hB : BhAt K (upd (upd (upd H2 sh (.lst [.ref l])) ca (.lst [])) q (.dK (bhDict sh ca as.length (some wd)))) q cs [] ws := by
      refine ⟨sh, ca, some wd, [l], [], ?_, ?_, ⟨rfl, fun i e c h1 h2 => ?_⟩, ?_, .nil, ?_⟩
      · rw [upd_same, cl]
        rfl
      · rw [upd_ne nsq]
        exact sh2
      · cases i with
        | zero =>
          obtain rfl : l = e := Option.some.inj h1
          obtain rfl : cs = c := Option.some.inj h2
          exact ⟨as, refsL_but p1 b13 l1, c1.but p1 b13⟩
        | succ i => simp at h1
      · rw [upd_ne ncq]
        exact ca2
      · exact strsL_but p1 b13 w1
    have w3 := strsL_but p1 b13 w1
    have b3 := b1.trans b13
    generalize upd (upd (upd H2 sh (.lst [.ref l])) ca (.lst [])) q (.dK (bhDict sh ca as.length (some wd))) = H3 at b3 p3 w3 hB ⊢
    clear b13 s12 sq q1 sh2 ca2 s2 nsh nca r1 l1 c1 w1 p1 b1 nq
    dsimp only
    refine ⟨_, rfl, _, rfl, _, _, rfl, rfl, p, y0, y1, _, rfl, p3, by omega, by omega, fun r u0 u1 r0 r1 => ⟨r, rfl, by omega, by omega, ?_⟩⟩
    have bm : But p H3 (upd H3 p (.lst [.int u0, .int u1])) := But.mut
    refine for_range (lo := 0) (n := r.toNat) (fun i σ H' => ∃ (h : Addr) (chs : List Ch) (y0 y1 : Int) (x7 : Option V), σ = [some (.ref p), some (.int m), some (.int top), some (.int many), some (.ref l), some (.ref wd), some (.ref h), x7] ∧ But p H H' ∧ H' p = some (.lst [.int y0, .int y1]) ∧ H' wd = some (.lst (ws.map V.str)) ∧
      BhAt K H' h cs chs ws ∧ Fits cs chs ∧ chs.length ≤ i ∧ ∀ ch ∈ chs, ch.upTo top) ⟨q, [], u0, u1, none, rfl, b3.trans bm, upd_same, strsL_but p3 bm w3, hB.but p3 bm, (fun i ch hc => by simp at hc), Nat.le_refl _, fun ch hc => by simp at hc⟩ ?_ ?_
    · rintro i σ H' hi ⟨h, chs, y0, y1, x7, rfl, b, hp', hw', hh, f, hlen, up⟩
      have g := f.good G chs.length (Nat.le_refl _)
      rw [List.take_length] at g
      obtain ⟨sh, es, e, as, e1, e2, e3, e4, e5, e6⟩ := hh.sheet (m := chs.length) (Nat.le_refl _)
      rw [List.take_length] at e6
      refine ⟨_, rfl, _, rfl, _, rfl, h, _, rfl, e1, 1, rfl, sh, _, -1, _, rfl, rfl, sqL_of e2, at_last e3 e4, _, rfl, _, rfl, p, e, wd, as, (atC cs chs).1, ws, y0, y1, top, (atC cs chs).2, rfl, hp', e5, e6, hw', W, g, t1, t9, fun t ch v0 v1 H4 hup hf hz b4 p4 ht => ?_⟩
      refine ⟨h, t, cs, chs, ws, ch, rfl, hh.but hp' b4, ht, g, hf, hz, by omega, fun h' H5 nh s5 hh' => ?_⟩
      exact ⟨h', chs ++ [ch], v0, v1, _, rfl, (b.trans b4).trans (But.of s5), s5 _ _ p4, s5 _ _ (strsL_but hp' b4 hw'), hh', f.app hf hz, by rw [List.length_append]; show chs.length + 1 ≤ i + 1; omega, fun c2 hc2 => by
        rcases List.mem_append.mp hc2 with hc2 | hc2
        · exact up c2 hc2
        · rw [List.mem_singleton.mp hc2]
          exact hup⟩
    · rintro σ H' ⟨h, chs, y0, y1, x7, rfl, b, hp', hw', hh, f, hlen, up⟩
      exact ⟨_, rfl, k h cs chs ws y0 y1 H' b hp' hh W ⟨pl, G, f, by omega⟩ (by omega) ⟨lm.1, lm.2, up⟩⟩
/-! _law_made_column: the Column that a drawn one tells -/
def sp_madeC (K : PySem.W.Frag) : Sp := fun vs H Q _ => ∃ (a : Addr) (c : Col), vs = [.ref a] ∧ H a = some (.dK (colB c)) ∧ ColOk c ∧ ∀ (x : Addr) (H' : Hp), H x = none → Same H H' → ColA K H' x c → Q (.ref x) H'
theorem ok_madeC (T : Tx K mg) : Callee P w K mg base CX0 6 "_law_made_column" ["_law_col"] [] (sp_madeC K) := by
  obtain ⟨fdI, GI, FI⟩ := ok_Col_init (P := P) (w := w) (base := base) T
  obtain ⟨_, _, kb⟩ := kbinds_Col T FI
  refine mkCallee (fd__law_made_column T) (mg__law_made_column T) sc__law_made_column (fun _ _ _ _ _ _ us hl => match us, hl with | [_], _ => rfl) (fun vs H Q E h => ?_) (fun cdv A outer s H vs Q E hr h => ?_)
  · obtain ⟨a, c, rfl, _⟩ := h
    rfl
  · obtain ⟨a, c, rfl, ha, ok, k⟩ := h
    have hu := hu_of hr
    refine ⟨_, pss_one (ps_ret (pe_makeK (mk_Column T) GI hr (by rfl) (mg_Column T) kb pass0 (pa_cons (pe_dget hu (pv 0) pe_str (fun _ _ => rfl)) (pa_cons (pe_dget hu (pv 0) pe_str (fun _ _ => rfl)) (pa_cons (pe_dget hu (pv 0) pe_str (fun _ _ => rfl)) pa_nil))) (pk_cons (pe_dget hu (pv 0) pe_str (fun _ _ => rfl)) pk_nil))), ?_⟩
    refine ⟨_, rfl, a, _, rfl, bc_name ha, _, rfl, a, _, rfl, bc_g ha, _, rfl, a, _, rfl, bc_d ha, _, rfl, a, _, rfl, bc_n ha, rfl, rfl, fun x dx2 nx ndx ndc => ?_⟩
    refine ⟨x, dx2, c.name, c.top, c.num, c.dflt, rfl, upd_same, ok.nm, ok.gr, ok.df, ok.nu, fun H4 hc4 k4 => ⟨rfl, ?_⟩⟩
    exact k x H4 nx (fun b o e => k4 b o (ne_of_none e nx) (by rw [upd_ne (ne_of_none e nx), upd_ne (ne_of_none e ndx)]; exact e)) hc4
/-! _law_made: the History that a drawn one tells -/
/-- return C(a, ..): the first argument first -/
theorem q_make1 {C : Addr} {sp : Sp} {dvs : List V} {E : XK} {ta : TE} {ts : TA} {D : Ends} {σ : L2.St} {H : Hp} (h : ta σ H fun v H1 => ts σ H1 fun vs H2 => ∀ x dx, H2 x = none → H2 dx = none → dx ≠ x →
    sp (.ref x :: ((v :: vs) ++ dvs)) (upd (upd H2 dx (.own x)) x (.ins C dx [])) (fun v H3 => v = .non ∧ D.rt (.ref x) H3) E) : tRet (tMake C sp dvs E (tCons ta ts)) D σ H := h
def sp_madeL (K : PySem.W.Frag) : Sp := fun vs H Q _ => ∃ (h : Addr) (cs : List Col) (chs : List Ch) (ws : List Str), vs = [.ref h] ∧ BhAt K H h cs chs ws ∧ HistOk cs chs ∧ ∀ (h' : Addr) (H' : Hp), H h' = none → Same H H' → HistN K H H' h' cs chs → Q (.ref h') H'
theorem ok_madeL (T : Tx K mg) : Callee P w K mg base CX0 13 "_law_made" ["_law_h"] [] (sp_madeL K) := by
  have C1 := (ok_madeC (P := P) (w := w) (base := base) T).up (show 6 ≤ 12 by decide)
  obtain ⟨fdI, GI, FI⟩ := ok_Hist_init (P := P) (w := w) (base := base) T
  have bI : Binds K fdI ["self", "columns", "changes"] [] := by
    have h := FI.binds1 (ps := ["self", "columns", "changes"]) 3 1 (by intro z; cases z) rfl (fun TT kV doc pm an cdv ct us its h1 h2 => ?_)
    · obtain ⟨ds, v, b⟩ := h
      cases ds with
      | nil => exact b
      | cons _ _ => cases v
    · match us, h1, its, h2 with
      | [u0, u1, u2], _, [i0], _ => exact ⟨_, rfl, rfl⟩
  refine mkCallee (fd__law_made T) (mg__law_made T) sc__law_made (fun _ _ _ _ _ _ us hl => match us, hl with | [_], _ => rfl) (fun vs H Q E h => ?_) (fun cdv A outer s H vs Q E hr h => ?_)
  · obtain ⟨h, cs, chs, ws, rfl, _⟩ := h
    rfl
  · obtain ⟨h, cs, chs, ws, rfl, hh, ok, k⟩ := h
    have nd := sc__law_made.nd
    have hu := hu_of hr
    refine ⟨_, pss_one (ps_ret (pe_make (mk_History T) GI hr (by rfl) (mg_History T) bI .nil pass0 (pa_cons (pe_lc (own := [("_law_col", 1)]) (g := gName 1) (tt := tYes) (te := tCall (sp_madeC K) [] E0 (tCons (tVar 1) tNil)) rfl nd (pi_list (pe_ix ix_list (pe_dget hu (pv 0) pe_str (fun _ _ => rfl)) pe_int (fun _ _ => rfl))) (blkOk_by (N := ["_law_h", "_law_col"]) (sc := defScope s__law_made) (by decide +kernel)) (fun _ _ _ _ _ => (pg_name (i := 1) nd rfl (Or.inl rfl))) (fun _ _ _ _ _ => pts_nil) (fun _ _ _ _ _ => (pcall C1 hr (pa_cons (pv 1) pa_nil)))) (pa_cons (pe_callTy call_list_of (by rfl) (fr_list T) (by decide +kernel) (pa_cons (pe_dget hu (pv 0) pe_str (fun _ _ => rfl)) pa_nil)) pa_nil)))), ?_⟩
    obtain ⟨sh, es, e, as, e1, e2, e3, e4, e5, e6⟩ := hh.sheet (m := 0) (Nat.zero_le _)
    rw [List.take_zero] at e6
    have e6 : BCols H as cs := e6
    obtain ⟨sh', ca, wd, es', ts, g1, g2, g3, g4, g5, g6⟩ := id hh
    have six := ok.g.six
    have hal := e6.len
    refine q_make1 ?_
    refine tlc_G (K := K) (xs := as.map V.ref) (fun i y H' => ∃ a c, y = .ref a ∧ cs[i]? = some c ∧ ColA K H' a c) (fun i y H1 H2 s2 ⟨a, c, h1, h2, h3⟩ => ⟨a, c, h1, h2, h3.keepNL s2⟩) (fun R q => ⟨_, rfl, h, _, rfl, e1, sh, _, 0, _, rfl, rfl, sqL_of e2, lref_at (j := 0) e4, q e H (Same.refl _) (sqL_of e5)⟩) (by rw [List.length_map]; omega) (fun _ => rfl) ?_ ?_
    · intro i x hx H1 s1 R hR
      rw [List.getElem?_map] at hx
      cases ha : as[i]? with
      | none =>
        rw [ha] at hx
        cases hx
      | some a =>
        rw [ha] at hx
        obtain rfl := Option.some.inj hx
        obtain ⟨c, hci, hat⟩ := e6.at_ ha
        refine ⟨_, rfl, a, c, rfl, s1 _ _ hat, (ok.g.ok c (List.mem_of_getElem? hci)).1, fun x H4 nx s4 hx4 => ?_⟩
        exact hR _ _ s4 ⟨x, c, rfl, hci, hx4⟩
    · intro D ys H' nD s' hD hlen' hy
      obtain ⟨as', rfl, hcs⟩ := Cols.of_vs (by rw [hlen', List.length_map, hal]) hy
      refine ⟨_, rfl, h, _, rfl, bh_changes (s' _ _ g1), ca, _, rfl, .inl (sqL_of (s' _ _ g4)), fun t nt => ?_⟩
      have st : Same H' (upd H' t (.lst (ts.map V.ref))) := same_new nt
      have s2 := s'.trans st
      have t2 : upd H' t (.lst (ts.map V.ref)) t = some (.lst (ts.map V.ref)) := upd_same
      have D2 := st _ _ hD
      have c2 := hcs.keep st
      generalize upd H' t (.lst (ts.map V.ref)) = H2 at st s2 t2 D2 c2 ⊢
      refine fun x dx nx ndx ndc => ?_
      have s3 : Same H2 (upd (upd H2 dx (.own x)) x (.ins (He.ga K "History") dx [])) := fun b o e => by
        rw [upd_ne (ne_of_none e nx), upd_ne (ne_of_none e ndx)]
        exact e
      refine ⟨x, dx, D, t, as', ts, cs, chs, rfl, upd_same, s3 _ _ D2, c2.keep s3, s3 _ _ t2, (g5.keep s2).keep s3, fun c hcm => (ok.g.ok c hcm).1, by rw [numb_placed ok.pl]; exact ok, fun H' hA kp => ⟨rfl, ?_⟩⟩
      rw [numb_placed ok.pl] at hA
      obtain ⟨dx', e', c', b', d', es', ts', hA, hb', hd'⟩ := hA
      exact k x H' (s2.free nx) (fun b o e => kp b o (ne_of_none (s2 _ _ e) nx) (s3 _ _ (s2 _ _ e))) ⟨dx', e', c', b', d', es', ts', hA, (s2.trans s3).free hb', (s2.trans s3).free hd'⟩
/-! changes by their kinds; what they do to a value -/
theorem ch_fill {ch : Ch} (h : ch.kind = "fill") : ∃ n j, ch = .fill n j := by
  cases ch with
  | fill n j => exact ⟨n, j, rfl⟩
  | great _ _ _ => exact absurd (show ("greatest" : Str) = "fill" from h) (by decide +kernel)
  | rename _ _ => exact absurd (show ("rename" : Str) = "fill" from h) (by decide +kernel)
  | drop _ => exact absurd (show ("drop" : Str) = "fill" from h) (by decide +kernel)
  | add _ _ _ => exact absurd (show ("add" : Str) = "fill" from h) (by decide +kernel)
  | dflt _ _ => exact absurd (show ("default" : Str) = "fill" from h) (by decide +kernel)
theorem ch_great {ch : Ch} (h : ch.kind = "greatest") : ∃ n g way, ch = .great n g way := by
  cases ch with
  | fill _ _ => exact absurd (show ("fill" : Str) = "greatest" from h) (by decide +kernel)
  | great n g way => exact ⟨n, g, way, rfl⟩
  | rename _ _ => exact absurd (show ("rename" : Str) = "greatest" from h) (by decide +kernel)
  | drop _ => exact absurd (show ("drop" : Str) = "greatest" from h) (by decide +kernel)
  | add _ _ _ => exact absurd (show ("add" : Str) = "greatest" from h) (by decide +kernel)
  | dflt _ _ => exact absurd (show ("default" : Str) = "greatest" from h) (by decide +kernel)
theorem ch_rename {ch : Ch} (h : ch.kind = "rename") : ∃ n m, ch = .rename n m := by
  cases ch with
  | fill _ _ => exact absurd (show ("fill" : Str) = "rename" from h) (by decide +kernel)
  | great _ _ _ => exact absurd (show ("greatest" : Str) = "rename" from h) (by decide +kernel)
  | rename n m => exact ⟨n, m, rfl⟩
  | drop _ => exact absurd (show ("drop" : Str) = "rename" from h) (by decide +kernel)
  | add _ _ _ => exact absurd (show ("add" : Str) = "rename" from h) (by decide +kernel)
  | dflt _ _ => exact absurd (show ("default" : Str) = "rename" from h) (by decide +kernel)
theorem ch_drop {ch : Ch} (h : ch.kind = "drop") : ∃ n, ch = .drop n := by
  cases ch with
  | fill _ _ => exact absurd (show ("fill" : Str) = "drop" from h) (by decide +kernel)
  | great _ _ _ => exact absurd (show ("greatest" : Str) = "drop" from h) (by decide +kernel)
  | rename _ _ => exact absurd (show ("rename" : Str) = "drop" from h) (by decide +kernel)
  | drop n => exact ⟨n, rfl⟩
  | add _ _ _ => exact absurd (show ("add" : Str) = "drop" from h) (by decide +kernel)
  | dflt _ _ => exact absurd (show ("default" : Str) = "drop" from h) (by decide +kernel)
theorem ch_add {ch : Ch} (h : ch.kind = "add") : ∃ n g d, ch = .add n g d := by
  cases ch with
  | fill _ _ => exact absurd (show ("fill" : Str) = "add" from h) (by decide +kernel)
  | great _ _ _ => exact absurd (show ("greatest" : Str) = "add" from h) (by decide +kernel)
  | rename _ _ => exact absurd (show ("rename" : Str) = "add" from h) (by decide +kernel)
  | drop _ => exact absurd (show ("drop" : Str) = "add" from h) (by decide +kernel)
  | add n g d => exact ⟨n, g, d, rfl⟩
  | dflt _ _ => exact absurd (show ("default" : Str) = "add" from h) (by decide +kernel)
theorem val_mis {v : V} (h : valOk v = true) : isMis v = false := by
  cases v with
  | non => rfl
  | int _ => rfl
  | _ => cases h
theorem chgV_no {n : Str} {ch : Ch} {v : V} (h : ¬ ch.name = n) : chgV n ch v = v := if_neg h
theorem nar_mis {g : Int} {way : Str} {v : V} {n : Str} (hm : isMis (chgV n (.great n g way) v) = true) (hv : valOk v = true) : narV g way v = .str "barred" := by
  unfold chgV at hm
  rw [if_pos (show (Ch.great n g way).name = n from rfl)] at hm
  unfold narV
  cases v with
  | non => cases hm
  | int j =>
    have hm : isMis (if g < j then abv g way else .int j) = true := hm
    split at hm
    · rename_i q
      rw [if_neg (show ¬ fitV g (.int j) = true by show ¬ decide (j ≤ g) = true; rw [decide_eq_false (by omega)]; decide)]
      unfold abv at hm
      split at hm
      · cases hm
      · rename_i q1
        rw [if_neg q1]
        split at hm
        · cases hm
        · rename_i q2
          rw [if_neg q2]
    · cases hm
  | _ => cases hv
theorem chg_ok {n : Str} {ch : Ch} {v : V} (hv : valOk v = true) (hm : isMis (chgV n ch v) = false) : valOk (chgV n ch v) = true := by
  unfold chgV at hm ⊢
  split at hm
  · rename_i h
    rw [if_pos h]
    cases ch with
    | great n g way =>
      cases v with
      | non => rfl
      | int j =>
        have hm : isMis (if g < j then abv g way else .int j) = false := hm
        show valOk (if g < j then abv g way else .int j) = true
        split at hm
        · rename_i q
          rw [if_pos q]
          unfold abv at hm ⊢
          split at hm
          · rename_i q1
            rw [if_pos q1]
            rfl
          · rename_i q1
            rw [if_neg q1]
            split at hm
            · rename_i q2
              rw [if_pos q2]
              rfl
            · exact absurd hm (by decide +kernel)
        · rename_i q
          rw [if_neg q]
          rfl
      | _ => cases hv
    | fill n i => cases v <;> first | rfl | cases hv
    | _ => cases v <;> first | rfl | cases hv
  · rename_i h
    rw [if_neg h]
    exact hv
theorem chg_same {n : Str} {ch : Ch} {v : V} (h1 : ¬ ch.kind = "fill") (h2 : ¬ ch.kind = "greatest") : chgV n ch v = v := by
  unfold chgV
  split
  · cases ch with
    | fill _ _ => exact absurd rfl h1
    | great _ _ _ => exact absurd rfl h2
    | _ => cases v <;> rfl
  · rfl
theorem chg_int {n : Str} {ch : Ch} {j : Int} (h2 : ¬ ch.kind = "greatest") : chgV n ch (.int j) = .int j := by
  unfold chgV
  split
  · cases ch with
    | great _ _ _ => exact absurd rfl h2
    | _ => rfl
  · rfl

/-! _law_step: a row behind one change, by a law -/
def sp_stepL (K : PySem.W.Frag) : Sp := fun vs H Q _ => ∃ (l t d : Addr) (as : List Addr) (cs : List Col) (ch : Ch) (kvs : List (Key × V)), vs = [.ref l, .ref d, .ref t] ∧ H l = some (.lst (as.map V.ref)) ∧ BCols H as cs ∧ ChAt K H t ch ∧ H d = some (.dK kvs) ∧ RowD cs kvs ∧ (cs.map (·.name)).Nodup ∧ cs.length ≤ 6 ∧ ch.fits = true ∧
  (∀ H', Same H H' → rowThen cs ch kvs = none → Q .non H') ∧ ∀ (d' : Addr) (kvs' : List (Key × V)) (H' : Hp), H d' = none → Same H H' → H' d' = some (.dK kvs') → rowThen cs ch kvs = some kvs' → Q (.ref d') H'
theorem ok_stepL (T : Tx K mg) : Callee P w K mg base CX0 3 "_law_step" ["_law_cols", "_law_row", "_law_change_here"] [] (sp_stepL K) := by
  have Cn := ok_narrow (P := P) (w := w) (base := base) T
  refine mkCallee (fd__law_step T) (mg__law_step T) sc__law_step (fun _ _ _ _ _ _ us hl => match us, hl with | [_, _, _], _ => rfl) (fun vs H Q E h => ?_) (fun cdv A outer s H vs Q E hr h => ?_)
  · obtain ⟨l, t, d, as, cs, ch, kvs, rfl, _⟩ := h
    rfl
  · obtain ⟨l, t, d, as, cs, ch, kvs, rfl, hl, hc, ht, hd, hrow, hnd, h6, hf, kn, ky⟩ := h
    have nd := sc__law_step.nd
    have hu := hu_of hr
    refine ⟨_, (pss_cons (ps_set (i := 3) nd rfl (Or.inl rfl) pe_dnewK)
        (pss_cons (ps_for PassesOwn.never rfl (pi_list (pv 0)) (pg_name (i := 4) nd rfl (Or.inl rfl)) (pss_cons (ps_set (i := 5) nd rfl (Or.inl rfl) (pe_dget hu (pv 1) (pe_dget hu (pv 4) pe_str (fun _ _ => rfl)) (fun _ _ => rfl)))
        (pss_cons (ps_if (PW.pt (pw_and (pt_cmpR op_eq (pe_ix ix_tup (pv 2) pe_int (fun _ _ => rfl)) (pe_dget hu (pv 4) pe_str (fun _ _ => rfl)) (nomark _)) (pw_and (pt_cmpR op_eq (pe_ix ix_tup (pv 2) pe_int (fun _ _ => rfl)) pe_str (nomark _)) (pw_and1 (pt_cmpR op_isN (pv 5) pe_non (nomark _)))))) (pss_one (ps_set (i := 5) nd rfl (Or.inl rfl) (pe_ix ix_tup (pv 2) pe_int (fun _ _ => rfl)))) pss_nil)
        (pss_cons (ps_if (PW.pt (pw_and (pt_cmpR op_eq (pe_ix ix_tup (pv 2) pe_int (fun _ _ => rfl)) (pe_dget hu (pv 4) pe_str (fun _ _ => rfl)) (nomark _)) (pw_and1 (pt_cmpR op_eq (pe_ix ix_tup (pv 2) pe_int (fun _ _ => rfl)) pe_str (nomark _))))) (pss_one (ps_set (i := 5) nd rfl (Or.inl rfl) (pcall Cn hr (pa_cons (pv 5) (pa_cons (pe_ix ix_tup (pv 2) pe_int (fun _ _ => rfl)) (pa_cons (pe_ix ix_tup (pv 2) pe_int (fun _ _ => rfl)) pa_nil)))))) pss_nil)
        (pss_cons (ps_if (pt_cmpR op_eq (pv 5) pe_str (nomark _)) (pss_one (ps_ret pe_non)) pss_nil)
        (pss_cons (ps_set (i := 6) nd rfl (Or.inl rfl) (pe_ifExp (PW.pt (pw_and (pt_cmpR op_eq (pe_ix ix_tup (pv 2) pe_int (fun _ _ => rfl)) pe_str (nomark _)) (pw_and1 (pt_cmpR op_eq (pe_ix ix_tup (pv 2) pe_int (fun _ _ => rfl)) (pe_dget hu (pv 4) pe_str (fun _ _ => rfl)) (nomark _))))) (pe_ix ix_tup (pv 2) pe_int (fun _ _ => rfl)) (pe_dget hu (pv 4) pe_str (fun _ _ => rfl))))
        (pss_one (ps_if (PW.pt (pw_or (pt_cmpR op_ne (pe_ix ix_tup (pv 2) pe_int (fun _ _ => rfl)) pe_str (nomark _)) (pw_or1 (pt_cmpR op_ne (pe_ix ix_tup (pv 2) pe_int (fun _ _ => rfl)) (pe_dget hu (pv 4) pe_str (fun _ _ => rfl)) (nomark _))))) (pss_one (ps_dput hu (pv 3) (pv 6) (pv 5) rfl)) pss_nil))))))))
        (pss_cons (ps_if (pt_cmpR op_eq (pe_ix ix_tup (pv 2) pe_int (fun _ _ => rfl)) pe_str (nomark _)) (pss_one (ps_dput hu (pv 3) (pe_ix ix_tup (pv 2) pe_int (fun _ _ => rfl)) (pe_ix ix_tup (pv 2) pe_int (fun _ _ => rfl)) rfl)) pss_nil)
        (pss_one (ps_ret (pv 3)))))), ?_⟩
    have hz : sizeLine = 16777216 := by decide
    refine q_asgX fun q nq => ?_
    have nql : q ≠ l := npool0 hl nq
    have nqd : q ≠ d := npool0 hd nq
    refine ⟨_, rfl, l, rfl, ⟨_, sqL_of (same_new nq _ _ hl)⟩, ?_⟩
    refine for_list (xs := as.map V.ref) (fun i σ H' => ∃ (acc : List (Key × V)) (x4 x5 x6 : Option V), σ = [some (.ref l), some (.ref d), some (.ref t), some (.ref q), x4, x5, x6] ∧ But q H H' ∧ H' q = some (.dK acc) ∧ acc.length ≤ i ∧
      rowGo ch cs (kvs.map (·.2)) [] = rowGo ch (cs.drop i) ((kvs.map (·.2)).drop i) acc) ⟨[], none, none, none, rfl, But.of (same_new nq), upd_same, Nat.le_refl _, rfl⟩ (fun i σ H' _ h => ?_) ?_ ?_
    · obtain ⟨_, _, _, _, _, b, _⟩ := h
      exact sqL_of (b _ _ nql.symm hl)
    · rintro i x σ H' hx ⟨acc, x4, x5, x6, rfl, b, hq, hlen, hgo⟩
      rw [List.getElem?_map] at hx
      cases ha : as[i]? with
      | none =>
        rw [ha] at hx
        cases hx
      | some a =>
        rw [ha] at hx
        obtain rfl := Option.some.inj hx
        have s' : Same H H' := But.same b (Same.refl _) nq
        obtain ⟨c, hci, hat0⟩ := hc.at_ ha
        have hat := s' _ _ hat0
        obtain ⟨v, hv1, hv2⟩ := hrow.2 i c hci
        have hvi : (kvs.map (·.2))[i]? = some v := by rw [List.getElem?_map, hv1]; rfl
        have hvo : valOk v = true := by
          cases v with
          | non => rfl
          | int _ => rfl
          | _ => cases hv2
        have hg : DGet H' d (.str c.name) (some v) := by
          rw [← valV_at (by rw [hrow.keys]; exact nodup_inr hnd) hv1]
          exact DGet.k (k := Sum.inr c.name) (s' _ _ hd)
        have ht' := ht.keep s'
        rw [go_at hci hvi] at hgo
        have hil : i < cs.length := (List.getElem?_eq_some_iff.mp hci).1
        have hsz : acc.length < sizeLine := by omega
        refine q_asgX ⟨_, rfl, _, rfl, a, _, rfl, bc_name hat, d, v, rfl, hg, ?_⟩
        dsimp only
        -- fill
        refine s_seq (fun σ' H2 => ∃ vA, σ' = [some (.ref l), some (.ref d), some (.ref t), some (.ref q), some (.ref a), some vA, x6] ∧ H2 = H' ∧ valOk vA = true ∧ (¬ ch.kind = "greatest" → vA = chgV c.name ch v) ∧ (ch.kind = "greatest" → vA = v)) ?_ ?_
        rotate_left
        · intro kk
          by_cases hn : ch.name = c.name
          · refine ⟨_, rfl, t, _, 1, _, rfl, rfl, ht', ch.at1, _, rfl, a, _, rfl, bc_name hat, rfl, _, rfl, iteDT (by rw [hn]) ⟨_, rfl, t, _, 0, _, rfl, rfl, ht', ch.at0, rfl, _, rfl, ?_⟩⟩
            by_cases hk : ch.kind = "fill"
            · refine iteDT (by rw [hk]) ⟨_, rfl, rfl, _, rfl, ?_⟩
              obtain ⟨n, j, rfl⟩ := ch_fill hk
              have hn : n = c.name := hn
              cases v with
              | non => exact iteDT rfl ⟨_, rfl, t, _, 2, _, rfl, rfl, ht', rfl, kk _ _ ⟨.int j, rfl, rfl, rfl, fun _ => by rw [chgV, if_pos (show (Ch.fill n j).name = c.name from hn)], fun z => absurd (show ("fill" : Str) = "greatest" from z) (by decide +kernel)⟩⟩
              | int u => exact iteD (fun z => by cases z) (kk _ _ ⟨.int u, rfl, rfl, rfl, fun z => (chg_int z).symm, fun _ => rfl⟩)
              | _ => cases hvo
            · exact iteD (nes hk) (iteF (kk _ _ ⟨v, rfl, rfl, hvo, fun z => (chg_same hk z).symm, fun _ => rfl⟩))
          · exact ⟨_, rfl, t, _, 1, _, rfl, rfl, ht', ch.at1, _, rfl, a, _, rfl, bc_name hat, rfl, _, rfl, iteD (nes hn) (iteF (kk _ _ ⟨v, rfl, rfl, hvo, fun _ => (chgV_no hn).symm, fun _ => rfl⟩))⟩
        rintro σ' H2 ⟨vA, e1, e2, hvA, hA1, hA2⟩
        rw [e1, e2]
        clear e1 e2
        -- greatest
        refine s_seq (fun σ' H2 => ∃ w, σ' = [some (.ref l), some (.ref d), some (.ref t), some (.ref q), some (.ref a), some w, x6] ∧ Same H' H2 ∧ ((isMis (chgV c.name ch v) = true ∧ w = .str "barred") ∨ (isMis (chgV c.name ch v) = false ∧ w = chgV c.name ch v ∧ valOk w = true))) ?_ ?_
        rotate_left
        · intro kk
          have go : vA = chgV c.name ch v → _ := fun e => kk _ _ ⟨vA, rfl, Same.refl _, .inr ⟨by rw [← e]; exact val_mis hvA, e, hvA⟩⟩
          by_cases hn : ch.name = c.name
          · refine ⟨_, rfl, t, _, 1, _, rfl, rfl, ht', ch.at1, _, rfl, a, _, rfl, bc_name hat, rfl, _, rfl, iteDT (by rw [hn]) ⟨_, rfl, t, _, 0, _, rfl, rfl, ht', ch.at0, rfl, _, rfl, ?_⟩⟩
            by_cases hk : ch.kind = "greatest"
            · obtain ⟨n, g, way, rfl⟩ := ch_great hk
              have hn : n = c.name := hn
              subst hn
              have hwy : isWy way = true := (Bool.and_eq_true_iff.mp (Bool.and_eq_true_iff.mp hf).2).2
              rw [hA2 rfl]
              refine iteDT rfl ⟨_, rfl, _, rfl, t, _, 2, _, rfl, rfl, ht', rfl, _, rfl, t, _, 3, _, rfl, rfl, ht', rfl, v, g, way, rfl, hvo, hwy, fun H3 s3 => kk _ _ ⟨narV g way v, rfl, s3, ?_⟩⟩
              cases hm : isMis (chgV c.name (.great c.name g way) v) with
              | true => exact .inl ⟨rfl, nar_mis hm hvo⟩
              | false => exact .inr ⟨rfl, nar_chg hvo hm, by rw [nar_chg hvo hm]; exact chg_ok hvo hm⟩
            · exact iteD (nes hk) (go (hA1 hk))
          · refine ⟨_, rfl, t, _, 1, _, rfl, rfl, ht', ch.at1, _, rfl, a, _, rfl, bc_name hat, rfl, _, rfl, iteD (nes hn) (iteF (go ?_))⟩
            by_cases hk : ch.kind = "greatest"
            · rw [hA2 hk, chgV_no hn]
            · exact hA1 hk
        rintro σ' H2 ⟨w, e1, s2, hw⟩
        rw [e1]
        clear e1
        rcases hw with ⟨hm, rfl⟩ | ⟨hm, hw, hwo⟩
        · rw [hm, if_pos rfl] at hgo
          exact ⟨_, rfl, rfl, _, rfl, iteDT rfl (kn H2 (s'.trans s2) (by unfold rowThen; rw [hgo]; rfl))⟩
        rw [hm, if_neg (by decide), ← hw] at hgo
        have hnb : ¬ w = V.str "barred" := by
          intro z
          rw [z] at hwo
          cases hwo
        have hsc : scal w (.str "barred") = true := by
          cases w with
          | non => rfl
          | int _ => rfl
          | _ => cases hwo
        refine ⟨_, rfl, hsc, _, rfl, iteD hnb (nxt ?_)⟩
        dsimp only
        have hat2 := s2 _ _ hat
        have ht2 := ht'.keep s2
        have hq2 := s2 _ _ hq
        have b2 := b.trans (But.of s2)
        -- the name
        refine s_seq (fun σ' H3 => ∃ nm : Str, σ' = [some (.ref l), some (.ref d), some (.ref t), some (.ref q), some (.ref a), some w, some (.str nm)] ∧ H3 = H2 ∧ ((ch.kind = "drop" ∧ ch.name = c.name ∧ stepR ch c w acc = acc) ∨ (¬ (ch.kind = "drop" ∧ ch.name = c.name) ∧ stepR ch c w acc = putK acc (Sum.inr nm) w))) ?_ ?_
        rotate_left
        · intro kk
          by_cases hr2 : ch.kind = "rename"
          · obtain ⟨n, m, rfl⟩ := ch_rename hr2
            have nod : ¬ ((Ch.rename n m).kind = "drop" ∧ (Ch.rename n m).name = c.name) := fun z => absurd (show ("rename" : Str) = "drop" from z.1) (by decide +kernel)
            refine ⟨_, rfl, t, _, 0, _, rfl, rfl, ht2, rfl, rfl, _, rfl, iteDT rfl ⟨_, rfl, t, _, 1, _, rfl, rfl, ht2, rfl, _, rfl, a, _, rfl, bc_name hat2, rfl, _, rfl, ?_⟩⟩
            by_cases hn : n = c.name
            · exact iteDT (by rw [hn]) ⟨_, rfl, t, _, 2, _, rfl, rfl, ht2, rfl, kk _ _ ⟨m, rfl, rfl, .inr ⟨nod, if_pos hn.symm⟩⟩⟩
            · exact iteD (nes hn) ⟨_, rfl, a, _, rfl, bc_name hat2, kk _ _ ⟨c.name, rfl, rfl, .inr ⟨nod, if_neg fun z => hn z.symm⟩⟩⟩
          · refine ⟨_, rfl, t, _, 0, _, rfl, rfl, ht2, ch.at0, rfl, _, rfl, iteD (nes hr2) (iteF ⟨_, rfl, a, _, rfl, bc_name hat2, kk _ _ ⟨c.name, rfl, rfl, ?_⟩⟩)⟩
            cases ch with
            | drop n =>
              by_cases hn : n = c.name
              · exact .inl ⟨rfl, hn, if_pos hn.symm⟩
              · exact .inr ⟨fun z => hn z.2, if_neg fun z => hn z.symm⟩
            | rename n m => exact absurd rfl hr2
            | add n g dv => exact .inr ⟨fun z => absurd (show ("add" : Str) = "drop" from z.1) (by decide +kernel), rfl⟩
            | dflt n dv => exact .inr ⟨fun z => absurd (show ("default" : Str) = "drop" from z.1) (by decide +kernel), rfl⟩
            | great n g way => exact .inr ⟨fun z => absurd (show ("greatest" : Str) = "drop" from z.1) (by decide +kernel), rfl⟩
            | fill n j => exact .inr ⟨fun z => absurd (show ("fill" : Str) = "drop" from z.1) (by decide +kernel), rfl⟩
        rintro σ' H3 ⟨nm, e1, e2, hst⟩
        rw [e1, e2]
        clear e1 e2
        rcases hst with ⟨hk, hn, hst⟩ | ⟨hno, hst⟩
        · rw [hst] at hgo
          refine ⟨_, rfl, t, _, 0, _, rfl, rfl, ht2, ch.at0, rfl, _, rfl, ?_⟩
          refine iteNS (by rw [hk]) ⟨_, rfl, t, _, 1, _, rfl, rfl, ht2, ch.at1, _, rfl, a, _, rfl, bc_name hat2, rfl, _, rfl, ?_⟩
          refine iteNS (by rw [hn]) (nxt ⟨acc, _, _, _, rfl, b2, hq2, by omega, hgo⟩)
        · rw [hst] at hgo
          have len3 : (putK acc (Sum.inr nm) w).length ≤ i + 1 := by
            have := step_len ch c w acc
            rw [hst] at this
            omega
          refine ⟨_, rfl, t, _, 0, _, rfl, rfl, ht2, ch.at0, rfl, _, rfl, ?_⟩
          by_cases hk : ch.kind = "drop"
          · have hn : ¬ ch.name = c.name := fun z => hno ⟨hk, z⟩
            refine iteNS (by rw [hk]) ⟨_, rfl, t, _, 1, _, rfl, rfl, ht2, ch.at1, _, rfl, a, _, rfl, bc_name hat2, rfl, _, rfl, ?_⟩
            exact iteNF (nes hn) ⟨_, rfl, _, rfl, _, rfl, q, _, rfl, DPut.k (k := Sum.inr nm) hq2 hsz, ⟨_, _, _, _, rfl, b2.trans But.mut, upd_same, len3, hgo⟩⟩
          · exact iteNF (nes hk) (iteT ⟨_, rfl, _, rfl, _, rfl, q, _, rfl, DPut.k (k := Sum.inr nm) hq2 hsz, ⟨_, _, _, _, rfl, b2.trans But.mut, upd_same, len3, hgo⟩⟩)
    · rintro σ H' ⟨acc, x4, x5, x6, rfl, b, hq, hlen, hgo⟩
      have s' : Same H H' := But.same b (Same.refl _) nq
      have ht' := ht.keep s'
      rw [List.length_map, List.drop_of_length_le (by rw [hc.len]; exact Nat.le_refl _)] at hgo
      have hgo2 : rowGo ch cs (kvs.map (·.2)) [] = some acc := by rw [hgo]; rfl
      have hlen2 : acc.length ≤ 6 := by
        have : as.length = cs.length := hc.len
        rw [List.length_map] at hlen
        omega
      have hz6 : acc.length < sizeLine := by omega
      refine ⟨_, rfl, t, _, 0, _, rfl, rfl, ht', ch.at0, rfl, _, rfl, ?_⟩
      by_cases hk : ch.kind = "add"
      · obtain ⟨n, g, dv, rfl⟩ := ch_add hk
        refine iteDT rfl ⟨_, rfl, t, _, 3, _, rfl, rfl, ht', rfl, _, rfl, _, rfl, t, _, 1, _, rfl, rfl, ht', rfl, q, _, rfl, DPut.k (k := Sum.inr n) hq hz6, ?_⟩
        refine ⟨_, rfl, ky q _ _ nq (But.same (b.trans But.mut) (Same.refl _) nq) upd_same ?_⟩
        unfold rowThen
        rw [hgo2]
        rfl
      · refine iteD (nes hk) (nxt ⟨_, rfl, ky q acc H' nq s' hq ?_⟩)
        unfold rowThen
        rw [hgo2]
        cases ch with
        | add _ _ _ => exact absurd rfl hk
        | _ => rfl
/-! tuple(list) with its object known; dict(tuple of pairs); a tuple turned about -/
section
variable {X : Cx}
/-- tuple(l): the new tuple's own object has no dict -/
theorem call_tupleF : CallR X (.type "tuple") (fun xs H Q => ∃ p ys, xs = [.ref p] ∧ SqL X.K H p ys ∧ ∀ l o, H l = none → o.dict = none → Q (.ref l) (upd H l (.frz o (.tup ys)))) := by
  intro pins s σ H xs us Q I r h
  obtain ⟨p, ys, ev, hq, q⟩ := h
  subst ev
  obtain ⟨u, eu, rx⟩ := vals1 r
  subst eu
  cases rx
  obtain ⟨is, ri, pl, hz⟩ := I.list hq
  have ln := ri.length
  refine call_tuple_list pl.isList (fun h1 kp => ?_) (by simp only [List.size_toArray]; omega)
  have I1 : Inv X pins σ H { s with heap := h1 } := I.kept (t' := s.toks) kp
  have I2 : Inv X pins σ (upd H h1.objs.size (.frz { cls := .type "tuple", data := .seq is.toArray } (.tup ys))) { s with heap := h1.push { cls := .type "tuple", data := .seq is.toArray } } :=
    I1.laid (t' := s.toks) (fun b o e => Heap.get?_push_of_some _ e) (Nat.le_refl _) (show ObjOk X.prog X.w _ _ _ (.frz _ (.tup ys)) from ⟨Heap.get?_push_size _ rfl, hz, is, ri, IsTup.new _ _⟩)
  exact ⟨.ref h1.objs.size, _, I2, rfl, q _ _ (I1.hok.fresh (Nat.le_refl _)) rfl⟩
theorem pairs_in {pins : List (Addr × Obj)} {σ : L2.St} {H : Hp} {s : Shared} (I : Inv X pins σ H s) : ∀ {ps : List Addr} {kvs : List (Key × V)}, Paired (fun p kv => SqT X.K H p [kV kv.1, kv.2]) ps kvs →
    ∃ (ws : List (Value × Value)) (prs : List (Key × Value)), KV kvs prs ∧ ws.length = ps.length ∧ prs.length = ps.length ∧ ∀ (j : Nat) (k v : Value), ws[j]? = some (k, v) → ∃ b kk, ps[j]? = some b ∧ IsTup s.heap b #[k, v] ∧ prs[j]? = some (kk, v) ∧ keyIs kk k = true
  | _, _, .nil => ⟨[], [], .nil, rfl, rfl, fun j k v e => by simp at e⟩
  | _, _, .cons (a := p) (b := kv) h t => by
    obtain ⟨ws, prs, r, l1, l2, hp⟩ := pairs_in I t
    obtain ⟨is, ri, ht, _⟩ := I.tuple h
    obtain ⟨u, y, ei, ru, ry⟩ := vals2 ri
    subst ei
    refine ⟨(u, y) :: ws, (kv.1, y) :: prs, .cons ⟨rfl, ry⟩ r, by rw [List.length_cons, List.length_cons, l1], by rw [List.length_cons, List.length_cons, l2], fun j k v e => ?_⟩
    cases j with
    | zero =>
      have e' : (u, y) = (k, v) := Option.some.inj e
      cases e'
      exact ⟨p, kv.1, rfl, ht, rfl, kV_is (P := X.prog) (w := X.w) ru⟩
    | succ j =>
      obtain ⟨b, kk, e1, e2, e3, e4⟩ := hp j k v (by simpa using e)
      exact ⟨b, kk, by simpa using e1, e2, by simpa using e3, e4⟩
/-- dict(t), t a tuple of pairs whose object is known -/
theorem call_dictF (hc : X.calm = true) : CallR X (.type "dict") (fun xs H Q => ∃ (a : Addr) (o : Obj) (ps : List Addr) (kvs : List (Key × V)), xs = [.ref a] ∧ H a = some (.frz o (.tup (ps.map V.ref))) ∧ o.dict = none ∧ Paired (fun p kv => SqT X.K H p [kV kv.1, kv.2]) ps kvs ∧
    ∀ p, H p = none → Q (.ref p) (upd H p (.dK (mergeK [] kvs)))) := by
  intro pins s σ H xs us Q I r q
  obtain ⟨a, o, ps, kvs, ev, ha, hn, hp, q⟩ := q
  subst ev
  obtain ⟨u, eu, rx⟩ := vals1 r
  subst eu
  cases rx
  obtain ⟨go, hz, is, ri, o2, g2, c2, n2, d2⟩ := I.hok a _ ha
  rw [go] at g2
  obtain rfl := Option.some.inj g2
  have ei := refs_at ri
  subst ei
  obtain ⟨ws, prs, rel, l1, l2, hw⟩ := pairs_in I hp
  rw [List.length_map] at hz
  have P := PySem.PairArg.tuple (prog := X.prog) (w := X.w) a (ps.map Value.ref).toArray (fun j => ps.getD j 0) ws
  have it : PySem.PairItems s.heap (ps.map Value.ref).toArray (fun j => ps.getD j 0) ws := ⟨by simp [l1], fun j k v e => by
    obtain ⟨b, kk, e1, e2, _⟩ := hw j k v e
    refine ⟨by simp [e1, List.getD_eq_getElem?_getD], ?_⟩
    show PySem.PairAt s.heap (ps.getD j 0) k v
    rw [List.getD_eq_getElem?_getD, e1]
    exact .inl e2⟩
  refine PySem.call_dict_pairs (knd := mixKind X.prog X.w) (kvs := prs) P (I.ok.hd hc) ⟨⟨_, n2, go, c2, hn, d2⟩, it⟩ ⟨by rw [l1, l2], fun j k v e => ?_⟩ (by rw [l1]; exact hz) fun h1 tk dd kp => ?_
  · obtain ⟨b, kk, _, _, e3, e4⟩ := hw j k v e
    exact ⟨kk, e3, e4⟩
  · have hm : (s.heap.objs.size == sysModules) = false := beq_eq_false_iff_ne.mpr (Nat.ne_of_gt I.big)
    have hl : (mergeK [] kvs).length ≤ sizeLine := by
      refine Nat.le_trans (length_mergeK kvs []) ?_
      rw [List.length_nil, Nat.zero_add, rel.length, l2]
      exact hz
    exact ⟨.ref s.heap.objs.size, upd H s.heap.objs.size (.dK (mergeK [] kvs)), I.laid (t' := tk) (fun b o e => kp b o (by simp) e) (Nat.le_refl _) (show ObjOk X.prog X.w _ _ _ (.dK (mergeK [] kvs)) from ⟨hl, hm, merged [] prs, KV.merge rel .nil, dd⟩), rfl, q _ (I.hok.fresh (Nat.le_refl _))⟩
end
section
variable {prog : Program} {w : World} {A : Around} {E : Value → Shared → Prop} {s : Shared}
theorem back_take (xs : List Value) : ∀ k : Nat, k ≤ xs.length → (List.range k).filterMap (fun (m : Nat) => xs[xs.length - 1 - m]?) = xs.reverse.take k
  | 0, _ => rfl
  | k + 1, h => by
    have e : xs.reverse[k]? = xs[xs.length - 1 - k]? := List.getElem?_reverse (by omega)
    rw [List.range_succ, List.filterMap_append, back_take xs k (by omega), List.take_add_one, e]
    have g : xs[xs.length - 1 - k]? = some (xs[xs.length - 1 - k]'(by omega)) := List.getElem?_eq_getElem (by omega)
    rw [List.filterMap_cons, List.filterMap_nil, g]
    rfl
theorem back_pick (xs : Array Value) : ((List.range xs.size).filterMap fun (m : Nat) => xs[((((xs.size : Nat) : Int) - 1) + (m : Int) * (-1)).toNat]?).toArray = xs.toList.reverse.toArray := by
  have f : (fun (m : Nat) => xs[((((xs.size : Nat) : Int) - 1) + (m : Int) * (-1)).toNat]?) = fun (m : Nat) => xs.toList[xs.toList.length - 1 - m]? := by
    funext m
    have : ((((xs.size : Nat) : Int) - 1) + (m : Int) * (-1)).toNat = xs.size - 1 - m := by omega
    rw [this, Array.length_toList, Array.getElem?_toList]
  have e : xs.size = xs.toList.length := Array.length_toList.symm
  rw [f]
  conv => lhs; rw [e]
  rw [back_take xs.toList _ (Nat.le_refl _), List.take_of_length_le (by rw [List.length_reverse]; exact Nat.le_refl _)]
theorem back_bounds (n : Nat) : Builtin.Slice.sliceAdjust none none (-1) (n : Int) = ((n : Int) - 1, -1) := by
  have h1 : ((-1 : Int) < 0) := by omega
  unfold PySem.Builtin.Slice.sliceAdjust
  simp only [h1, if_true]
theorem back_places (n : Nat) : Builtin.Slice.slicePlaces ((n : Int) - 1) (-1) (-1) = n := by
  unfold PySem.Builtin.Slice.slicePlaces
  have h1 : ¬ ((-1 : Int) > 0) := by omega
  simp only [h1, if_false, Int.neg_neg, Int.ediv_one]
  split <;> omega
theorem back_applied {sl : Addr} {vs : Value} {n : Nat} {Q : Int × Int × Nat → Shared → Prop} (hs : s.heap.IsSliceOf sl .none .none vs) (ps : IsPart vs (some (-1))) (h : Q ((n : Int) - 1, -1, n) s) : wpAny (model prog w) A (Builtin.Slice.sliceApplied (.ref sl) (pure (n : Int))) Q E s := by
  obtain ⟨os, gs, cs, ds⟩ := id hs
  unfold PySem.Builtin.Slice.sliceApplied PySem.Builtin.Slice.sliceFields
  refine wpAny_bind (wpAny_bind (wpAny_field gs ds (x := .none) rfl (wpAny_bind (wpAny_field gs ds (x := .none) rfl (wpAny_bind (wpAny_field gs ds (x := vs) rfl (wpAny_pure ?_)))))))
  refine wpAny_bind (HT.slicePart_ ps ?_)
  show wpAny _ _ (if ((-1 : Int) == 0) = true then _ else _) _ _ s
  rw [if_neg (by decide)]
  refine wpAny_bind (slicePart_none (wpAny_bind (slicePart_none (wpAny_bind (wpAny_pure ?_)))))
  show wpAny _ _ (match Builtin.Slice.sliceAdjust none none (-1) (n : Int) with | (lo, hi) => pure (lo, (-1 : Int), Builtin.Slice.slicePlaces lo hi (-1))) _ _ s
  rw [back_bounds n]
  show wpAny _ _ (pure ((n : Int) - 1, (-1 : Int), Builtin.Slice.slicePlaces ((n : Int) - 1) (-1) (-1))) _ _ s
  rw [back_places]
  exact wpAny_pure h
theorem back_item {t sl : Addr} {items : Array Value} {vs : Value} {Q : Value → Shared → Prop} (ht : IsTup s.heap t items) (hs : s.heap.IsSliceOf sl .none .none vs) (ps : IsPart vs (some (-1))) (hz : items.size ≤ sizeLine)
    (h : Q (.ref s.heap.objs.size) { s with heap := s.heap.push { cls := .type "tuple", data := .seq items.toList.reverse.toArray } }) : wpAny (model prog w) A (getItem (.ref t) (.ref sl)) Q E s := by
  have tk : sizeOk (.seq items.toList.reverse.toArray) := by
    show items.toList.reverse.toArray.size ≤ sizeLine
    rw [List.size_toArray, List.length_reverse, Array.length_toList]
    exact hz
  obtain ⟨os, gs, cs, ds⟩ := id hs
  have ty : s.TypeIs (.ref sl) "slice" := ⟨os, gs, cs⟩
  unfold getItem
  try with_reducible refine wpAny_holding ?_
  first | refine wpAny_bind (wpAny_pure ?_) | skip
  refine wpAny_bind (wpAny_sequenceKey ht.typeIs (by decide) ?_)
  refine wpAny_bind (wpAny_callSpecial?_slot (name := Str.ofString "__getitem__") ht.typeIs PyProof.Rows.slot_tuple_getitem (wpAny_call_entry PyProof.Rows.slot_tuple_getitem ht.typeIs entry_tuple_getitem ?_ (args_tuple_getitem _ _)))
  show wpAny _ _ (Builtin.Tuple.tupleItemsOf (.ref t) >>= _) _ _ s
  refine wpAny_bind (tupleItemsOf_ ht (wpAny_bind (wpAny_typeOf ty ?_)))
  rw [if_pos (by decide)]
  refine wpAny_bind (back_applied (n := items.size) hs ps ?_)
  have no : ¬ ((((items.size : Nat) : Int) - 1 == 0 && (-1 : Int) == 1 && items.size == items.size) = true) := by
    intro q
    rw [Bool.and_eq_true, Bool.and_eq_true] at q
    exact absurd (eq_of_beq q.1.2) (by decide)
  show wpAny _ _ (if (((items.size : Nat) : Int) - 1 == 0 && (-1 : Int) == 1 && items.size == items.size) = true then _ else _) _ _ s
  rw [if_neg no, back_pick]
  first
    | exact wpAny_bind (m := Builtin.Tuple.tupleExact _) (wpAny_newObj_type (wpAny_pure ⟨_, rfl, wpAny_pure h⟩) tk)
    | exact wpAny_bind (m := Builtin.Tuple.tupleExact _) (wpAny_newObj_type (wpAny_bind (wpAny_pure (wpAny_pure ⟨_, rfl, wpAny_pure h⟩))) tk)
    | exact wpAny_bind (wpAny_bind (m := Builtin.Tuple.tupleExact _) (wpAny_newObj_type (wpAny_pure (wpAny_pure ⟨_, rfl, wpAny_pure h⟩)) tk))
    | exact wpAny_bind (wpAny_bind (m := Builtin.Tuple.tupleExact _) (wpAny_newObj_type (wpAny_pure ⟨_, rfl, wpAny_pure h⟩) tk))
end
/-- t[::-1] -/
def tBackT (K : PySem.W.Frag) (te : TE) : TE := fun σ H Q => te σ H fun x H1 => ∃ a xs, x = .ref a ∧ SqT K H1 a xs ∧ ∀ p, H1 p = none → Q (.ref p) (upd H1 p (.tup xs.reverse))
theorem pe_backT {X : Cx} {e : Expr} {te : TE} {k : Nat} {p1 p2 p3 pos : Pos} (he : PE X e te) : PE X (.Subscript e (.Slice none none (some (.UnaryOp .USub (.Constant (.int 1) k p1) p2)) p3) pos) (tBackT X.K te) := by
  refine ⟨fun pins s σ H Q I h => Subscript_ (thn (he.run pins s σ H _ I h) fun v s1 ⟨x, H1, I1, r1, q1⟩ => ?_)⟩
  obtain ⟨a, xs, ev, hx, q⟩ := q1
  subst ev
  cases r1
  have sp : PO X (some (.UnaryOp .USub (.Constant (.int 1) k p1) p2)) (tPart (tUn (rU fun i => .int (-i)) (tC (.int 1)))) := po_some (pe_un un_neg pe_int)
  refine wpAny_Slice (thn (po_none.run pins s1 σ H1 (fun o H2 => o = none ∧ H2 = H1) I1 ⟨rfl, rfl⟩) fun vl s2 ⟨l, H2, I2, pl, el, e2⟩ => ?_)
  subst el e2
  refine thn (po_none.run pins s2 σ H2 (fun o H3 => o = none ∧ H3 = H2) I2 ⟨rfl, rfl⟩) fun vu s3 ⟨u, H3, I3, pu, eu, e3⟩ => ?_
  subst eu e3
  refine thn (sp.run pins s3 σ H3 (fun o H4 => o = some (-1) ∧ H4 = H3) I3 ⟨1, rfl, -1, rfl, rfl, rfl⟩) fun vs s4 ⟨o, H4, I4, ps, eo, e4⟩ => ?_
  subst eo e4
  cases pl
  cases pu
  have I5 : Inv X pins σ H4 { s4 with heap := s4.heap.push { cls := .type "slice", data := .fields #[.none, .none, vs] } } := I4.kept (t' := s4.toks) fun b ob q => Heap.get?_push_of_some _ q
  obtain ⟨is, r, ht, hz⟩ := I5.tuple hx
  have ln := r.length
  show wpAny (model X.prog X.w) X.A (subscriptTail e (.Slice none none (some (.UnaryOp .USub (.Constant (.int 1) k p1) p2)) p3) (.ref a) (.ref s4.heap.objs.size)) (EP X pins σ Q) X.xe { s4 with heap := s4.heap.push { cls := .type "slice", data := .fields #[.none, .none, vs] } }
  refine tail_any (ops := [.ref a, .ref s4.heap.objs.size]) ht.typeIs PyProof.Rows.slot_tuple_getitem.lookup ?_ (by with_unfolding_all rfl)
  refine back_item ht (Heap.IsSliceOf.new _ .none .none vs) ps (by rw [List.size_toArray]; omega) ?_
  refine ⟨.ref _, _, I5.laid (t' := s4.toks) (o := .tup xs.reverse) (fun b ob q => Heap.get?_push_of_some _ q) (Nat.le_refl _) ?_, rfl, q _ (I5.hok.fresh (Nat.le_refl _))⟩
  exact ⟨by rw [List.length_reverse]; exact hz, _, r.reverse, IsTup.new _ _⟩

/-! _law_stored of the second set: a row stored at an edition, what is untold by default -/
def tellV (kvs : List (Key × V)) (c : Col) : V := (valV kvs (Sum.inr c.name)).getD c.dflt
def entsL (cs : List Col) (kvs : List (Key × V)) : List (Int × V) := cs.map fun c => (c.num, tellV kvs c)
theorem entsL_len {cs : List Col} {kvs : List (Key × V)} : (entsL cs kvs).length = cs.length := List.length_map ..
theorem entsL_at {cs : List Col} {kvs : List (Key × V)} {j : Nat} {c : Col} (h : cs[j]? = some c) : (entsL cs kvs)[j]? = some (c.num, tellV kvs c) := by
  unfold entsL
  rw [List.getElem?_map, h]
  rfl
theorem keyL_nodup {cs : List Col} {kvs : List (Key × V)} (a : Asc cs) : (((entsL cs kvs).map keyE).map (·.1)).Nodup := by
  have e : ((entsL cs kvs).map keyE).map (·.1) = (cs.map (·.num)).map (Sum.inl : Int → Key) := by
    unfold entsL
    rw [List.map_map, List.map_map, List.map_map]
    rfl
  rw [e]
  unfold List.Nodup
  rw [List.pairwise_map]
  exact List.Pairwise.imp (fun h q => by have := Sum.inl.inj q; omega) a
theorem asc_new {cs : List Col} {kvs : List (Key × V)} {i : Nat} {c : Col} (a : Asc cs) (h : cs[i]? = some c) : (Sum.inl c.num : Key) ∉ ((entsL (cs.take i) kvs).map keyE).map (·.1) := by
  intro hm
  rw [List.map_map] at hm
  obtain ⟨e, he, q⟩ := List.mem_map.mp hm
  obtain ⟨c', hc', rfl⟩ := List.mem_map.mp he
  have q : (Sum.inl c'.num : Key) = Sum.inl c.num := q
  have q := Sum.inl.inj q
  obtain ⟨j, hj⟩ := List.mem_iff_getElem?.mp hc'
  rw [List.getElem?_take] at hj
  split at hj
  · rename_i hji
    have a' : cs.Pairwise fun x y => x.num < y.num := List.pairwise_map.mp a
    obtain ⟨h1, h2⟩ := List.getElem?_eq_some_iff.mp hj
    obtain ⟨h3, h4⟩ := List.getElem?_eq_some_iff.mp h
    have := List.pairwise_iff_getElem.mp a' j i h1 h3 hji
    rw [h2, h4] at this
    omega
  · cases hj
/-- what is told fits -/
def ToldOk (cs : List Col) (kvs : List (Key × V)) : Prop := ∀ c ∈ cs, isIn c.top (tellV kvs c) = true
theorem ToldOk.fit {cs : List Col} {kvs : List (Key × V)} (t : ToldOk cs kvs) : FitE cs (entsL cs kvs) := ⟨entsL_len, fun j c h => ⟨_, entsL_at h, t c (List.mem_of_getElem? h)⟩⟩
def sp_storedL (K : PySem.W.Frag) : Sp := fun vs H Q _ => ∃ (h d : Addr) (cs0 : List Col) (chs : List Ch) (ws : List Str) (m : Nat) (kvs : List (Key × V)), vs = [.ref h, .int (m : Nat), .ref d] ∧ BhAt K H h cs0 chs ws ∧ m ≤ chs.length ∧ H d = some (.dK kvs) ∧ (atC cs0 (chs.take m)).1.length ≤ 60 ∧ Asc (atC cs0 (chs.take m)).1 ∧
  ∀ (r : Addr) (H' : Hp), H r = none → Same H H' → StF K H' r (m : Nat) (entsL (atC cs0 (chs.take m)).1 kvs) → Q (.ref r) H'
theorem ok_storedL (T : Tx K mg) : Callee P w K mg base CX0 1 "_law_stored" ["_law_h", "_law_edition", "_law_told"] [] (sp_storedL K) := by
  refine mkCallee (fd__law_stored T) (mg__law_stored T) sc__law_stored (fun _ _ _ _ _ _ us hl => match us, hl with | [_, _, _], _ => rfl) (fun vs H Q E h => ?_) (fun cdv A outer s H vs Q E hr h => ?_)
  · obtain ⟨h, d, cs0, chs, ws, m, kvs, rfl, _⟩ := h
    rfl
  · obtain ⟨h, d, cs0, chs, ws, m, kvs, rfl, hh, hm, hd, hlen, hasc, k⟩ := h
    have nd := sc__law_stored.nd
    have hu := hu_of hr
    have gi : mg "int" = none := fr_int T
    refine ⟨_, pss_cons (ps_set (i := 3) nd rfl (Or.inr rfl) pe_dnewK)
      (pss_cons (ps_for PassesOwn.never rfl (pi_list (pe_ix ix_list (pe_dget hu (pv 0) pe_str (fun _ _ => rfl)) (pv 1) (fun _ _ => rfl))) (pg_name (i := 4) nd rfl (Or.inl rfl)) (pss_one (ps_dput hu (pv 3) (pe_dget hu (pv 4) pe_str (fun _ _ => rfl)) (pe_dget2 hu (pv 2) (pe_dget hu (pv 4) pe_str (fun _ _ => rfl)) (pe_dget hu (pv 4) pe_str (fun _ _ => rfl)) ⟨rfl, rfl, rfl, rfl⟩) rfl)))
      (pss_one (ps_ret (pe_tup (pa_cons (pv 1) (pa_cons (pe_callTy call_tupleF (by rfl) (fr_tuple T) (by decide +kernel) (pa_cons (pe_lc (own := [("_law_n", 5)]) (g := gName 5) (tt := tYes) (te := tTup (tCons (tVar 5) (tCons (tDGet (tVar 3) (tVar 5)) tNil))) rfl nd
          (pi_list (pe_callB cr_sortedI (by rfl) (fr_sorted T) (by decide +kernel) (pa_cons (pe_lock (pe_lc (own := [("_law_n", 5)]) (g := gName 5) (tt := tYes) rfl nd (pi_keys (pv 3)) (blkOk_by (N := ["_law_h", "_law_edition", "_law_told", "_law_found", "_law_col", "_law_n"]) (sc := defScope s__law_stored) (by decide +kernel))
            (fun _ _ _ _ _ => pg_name (i := 5) nd rfl (Or.inl rfl)) (fun _ _ _ _ _ => pts_nil) (fun _ _ _ _ _ => pe_callTy call_int1 (by rfl) gi (by decide +kernel) (pa_cons (pv 5) pa_nil)))) pa_nil)))
          (blkOk_by (N := ["_law_h", "_law_edition", "_law_told", "_law_found", "_law_col", "_law_n"]) (sc := defScope s__law_stored) (by decide +kernel))
          (fun _ _ _ _ _ => pg_name (i := 5) nd rfl (Or.inl rfl)) (fun _ _ _ _ _ => pts_nil) (fun _ _ _ _ _ => pe_tup (pa_cons (pv 5) (pa_cons (pe_dget hu (pv 3) (pv 5) (fun _ _ => rfl)) pa_nil)))) pa_nil)) pa_nil)))))), ?_⟩
    refine q_asgX fun o no => ?_
    obtain ⟨sh, ca, wd, nn, es, e, as, e1, e2, e3, e4, e5, hc⟩ := hh.sheetR hm
    generalize (atC cs0 (chs.take m)).1 = cs at hc hlen hasc k
    have hsl : sizeLine = 16777216 := by decide
    have s0 : Same H (upd H o (.dK [])) := same_new no
    have e1' : DGet (upd H o (.dK [])) h (.str "sheets") (some (.ref sh)) := bh_sheets (s0 _ _ e1)
    refine ⟨_, rfl, h, _, rfl, e1', _, rfl, sh, _, _, .ref e, rfl, rfl, sqL_of (s0 _ _ e2), lref_at e4, e, rfl, ⟨_, sqL_of (s0 _ _ e5)⟩, ?_⟩
    refine for_list (xs := as.map V.ref) (fun i σ H' => ∃ (x4 : Option V), σ = [some (.ref h), some (.int (m : Nat)), some (.ref d), some (.ref o), x4, none] ∧ But o H H' ∧ H' o = some (.dK ((entsL (cs.take i) kvs).map keyE))) ⟨none, rfl, But.of s0, upd_same⟩ (fun i σ H' _ q => ?_) ?_ ?_
    · obtain ⟨_, _, b, _⟩ := q
      exact sqL_of (b _ _ (ne_of_none e5 no) e5)
    · rintro i x σ H' hx ⟨x4, rfl, b, ho⟩
      rw [List.getElem?_map] at hx
      cases ha : as[i]? with
      | none =>
        rw [ha] at hx
        cases hx
      | some a =>
        rw [ha] at hx
        obtain rfl := Option.some.inj hx
        have s' : Same H H' := But.same b (Same.refl _) no
        obtain ⟨c, hci, hat0⟩ := hc.at_ ha
        have hat := s' _ _ hat0
        have hd' := s' _ _ hd
        have hil := (List.getElem?_eq_some_iff.mp hci).1
        have hg : DGet H' d (.str c.name) (valV kvs (Sum.inr c.name)) := DGet.k (k := Sum.inr c.name) hd'
        refine ⟨_, rfl, d, rfl, .inl ⟨_, .inl hd'⟩, _, rfl, a, _, rfl, bc_name hat, _, rfl, a, _, rfl, bc_d hat, _, hg, _, rfl, _, rfl, a, _, rfl, bc_n hat, o, _, rfl, DPut.k (k := Sum.inl c.num) ho (by rw [List.length_map, entsL_len, List.length_take]; omega), ?_⟩
        refine ⟨_, rfl, b.trans But.mut, ?_⟩
        rw [upd_same, put_new]
        · unfold entsL
          rw [List.take_add_one, hci, List.map_append, List.map_append]
          rfl
        · exact asc_new hasc hci
    rintro σ H2 ⟨x4, rfl, b2, ho2⟩
    have s2 : Same H H2 := But.same b2 (Same.refl _) no
    rw [List.length_map, List.take_of_length_le (by rw [hc.len]; exact Nat.le_refl _)] at ho2
    refine ⟨_, rfl, ?_⟩
    refine pl_e1 ?_
    have hasc' : (cs.map (·.num)).Pairwise (· < ·) := hasc
    have nlen : (cs.map (·.num)).length ≤ 60 := by rw [List.length_map]; exact hlen
    refine tlc_G (K := K) (xs := (cs.map (·.num)).map V.int) (fun i y H' => ∃ t e, y = .ref t ∧ (entsL cs kvs)[i]? = some e ∧ SqT K H' t [.int e.1, e.2]) (fun i y H1 H2 s2 ⟨t, e, h1, h2, h3⟩ => ⟨t, e, h1, h2, sqT_keepNL s2 h3⟩) (fun R h => ?_) (by rw [List.length_map]; omega) (fun _ => rfl) ?_ ?_
    · refine pl_e1 ?_
      refine ⟨o, .dK ((entsL cs kvs).map keyE), ho2, by first | trivial | exact True.intro | decide, fun od => ?_⟩
      have hf : upd H2 o (.frz od (.dK ((entsL cs kvs).map keyE))) o = some (.frz od (.dK ((entsL cs kvs).map keyE))) := upd_same
      refine ⟨_, rfl, o, od, rfl, .inl ⟨_, hf, fun E nE => ?_⟩⟩
      have nEo : o ≠ E := ne_of_none hf nE
      refine lc_it walk_keys (fun i H' => (∀ b u, b ≠ o → H2 b = some u → H' b = some u) ∧ H' o = some (.frz od (.dK ((entsL cs kvs).map keyE))) ∧ H' E = some (.lst (((cs.map (·.num)).take i).map V.int))) ⟨fun b u hb e => ?_, ?_, upd_same⟩ (fun i H' _ q => q.2.1) ?_ ?_
      · have : upd H2 o (.frz od (.dK ((entsL cs kvs).map keyE))) b = some u := by rw [upd_ne hb]; exact e
        exact same_new nE _ _ this
      · rw [upd_ne nEo]
        exact hf
      · rintro i x H' H'' hi ⟨q1, q2, q3⟩ ⟨rfl, kk, v, hk, rfl⟩
        rw [List.getElem?_map] at hk
        cases he : (entsL cs kvs)[i]? with
        | none =>
          rw [he] at hk
          cases hk
        | some e =>
          rw [he] at hk
          have hk' := Option.some.inj hk
          have ek : kk = Sum.inl e.1 := (congrArg Prod.fst hk').symm
          subst ek
          have hil : i < cs.length := by
            have := (List.getElem?_eq_some_iff.mp he).1
            rw [entsL_len] at this
            exact this
          have hci := List.getElem?_eq_getElem hil
          have e1 := entsL_at (kvs := kvs) hci
          obtain rfl := Option.some.inj (he.symm.trans e1)
          refine ⟨rfl, _, rfl, .inl ⟨cs[i].num, rfl, _, q3, ?_, fun b u hb eb => ?_, ?_, ?_⟩⟩
          · have e : sizeLine = 16777216 := by decide
            rw [List.length_map, List.length_take]
            omega
          · by_cases hbE : b = E
            · subst hbE
              rw [upd_ne hb.symm.symm] at nE
              rw [nE] at eb
              cases eb
            · rw [upd_ne hbE]
              exact q1 b u hb eb
          · rw [upd_ne nEo]
            exact q2
          · rw [upd_same, List.take_add_one, List.getElem?_map, hci, List.map_append]
            rfl
      · rintro H' ⟨q1, q2, q3⟩
        rw [List.length_map, entsL_len, List.take_of_length_le (by rw [List.length_map]; exact Nat.le_refl _)] at q3
        refine ⟨q2, E, cs.map (·.num), rfl, sqL_of ?_, fun ns' q perm pw nq => ?_⟩
        · rw [upd_ne nEo.symm]
          exact q3
        · rw [sorted_eq perm pw hasc']
          refine h q _ (fun b u eb => same_new nq _ _ ?_) (sqL_of upd_same)
          by_cases hbo : b = o
          · subst hbo
            rw [upd_same, ← ho2]
            exact eb
          · rw [upd_ne hbo]
            exact q1 b u hbo eb
    · intro i x hx H3 s3 R hR
      rw [List.getElem?_map, List.getElem?_map] at hx
      cases hci : cs[i]? with
      | none =>
        rw [hci] at hx
        cases hx
      | some c =>
        rw [hci] at hx
        obtain rfl := Option.some.inj hx
        have e1 := entsL_at (kvs := kvs) hci
        have hg : DGet H3 o (.int c.num) (some (tellV kvs c)) := by
          rw [← valV_at (k := Sum.inl c.num) (j := i) (keyL_nodup hasc) (by rw [List.getElem?_map, e1]; rfl)]
          exact DGet.k (k := Sum.inl c.num) (s3 _ _ ho2)
        exact ⟨_, rfl, _, rfl, _, rfl, o, _, rfl, hg, by show 2 ≤ sizeLine; decide, fun t nt => hR _ _ (same_new nt) ⟨t, _, rfl, e1, sqT_of upd_same⟩⟩
    intro D2 ys H3 nD2 s3 hD2 hlen2 hy2
    obtain ⟨ts, rfl, hts⟩ := Ents.of_vs (by rw [hlen2, List.length_map, List.length_map, entsL_len]) hy2
    refine ⟨D2, _, rfl, sqL_of hD2, fun q o nq no => ⟨by show 2 ≤ sizeLine; decide, fun r nr => ?_⟩⟩
    have s4 := (s2.trans s3).trans ((same_new (o := .frz o (.tup (ts.map V.ref))) nq).trans (same_new (o := .tup [.int (m : Nat), .ref q]) nr))
    refine k r _ ?_ s4 ⟨q, ts, o, sqT_of upd_same, same_new nr _ _ upd_same, no, (hts.keep (same_new nq)).keep (same_new nr)⟩
    exact ((s2.trans s3).trans (same_new nq)).free nr
/-! _law_followed: a stored row followed up to an edition, by a law -/
theorem keyF_nodup {cs : List Col} {es : List (Int × V)} (f : FitE cs es) (a : Asc cs) : ((es.map keyE).map (·.1)).Nodup := by
  have e : (es.map keyE).map (·.1) = (cs.map (·.num)).map (Sum.inl : Int → Key) := by
    refine List.ext_getElem? fun j => ?_
    rw [List.getElem?_map, List.getElem?_map, List.getElem?_map, List.getElem?_map]
    cases hc : cs[j]? with
    | none =>
      have : es[j]? = none := List.getElem?_eq_none (by have := List.getElem?_eq_none_iff.mp hc; rw [f.1]; exact this)
      rw [this]
      rfl
    | some c =>
      obtain ⟨v, h1, _⟩ := f.2 j c hc
      rw [h1]
      rfl
  rw [e]
  unfold List.Nodup
  rw [List.pairwise_map]
  exact List.Pairwise.imp (fun h q => by have := Sum.inl.inj q; omega) a
theorem merge_keyF {cs : List Col} {es : List (Int × V)} (f : FitE cs es) (a : Asc cs) : mergeK [] (es.map keyE) = es.map keyE := by
  have := merge_new (es.map keyE) [] (by rw [List.nil_append]; exact keyF_nodup f a)
  rw [List.nil_append] at this
  exact this
theorem keyF_val {cs : List Col} {es : List (Int × V)} (f : FitE cs es) (a : Asc cs) {j : Nat} {n : Int} {v : V} (h : es[j]? = some (n, v)) : valV (es.map keyE) (Sum.inl n) = some v :=
  valV_at (k := Sum.inl n) (j := j) (keyF_nodup f a) (by rw [List.getElem?_map, h]; rfl)
def sp_followedL (K : PySem.W.Frag) : Sp := fun vs H Q _ => ∃ (h r : Addr) (cs : List Col) (chs : List Ch) (ws : List Str) (i e : Nat) (es : List (Int × V)), vs = [.ref h, .ref r, .int (e : Nat)] ∧ BhAt K H h cs chs ws ∧ HistOk cs chs ∧ i ≤ e ∧ e ≤ chs.length ∧ StF K H r (i : Nat) es ∧ FitE (atC cs (chs.take i)).1 es ∧
  (∀ H', Same H H' → folTo cs chs i (rowE (atC cs (chs.take i)).1 es) (e - i) = none → Q .non H') ∧
  ∀ (d : Addr) (kvs : List (Key × V)) (H' : Hp), Same H H' → H' d = some (.dK kvs) → folTo cs chs i (rowE (atC cs (chs.take i)).1 es) (e - i) = some kvs → Q (.ref d) H'
theorem ok_followedL (T : Tx K mg) : Callee P w K mg base CX0 4 "_law_followed" ["_law_h", "_law_row", "_law_edition"] [] (sp_followedL K) := by
  have Cs := ok_stepL (P := P) (w := w) (base := base) T
  refine mkCallee (fd__law_followed T) (mg__law_followed T) sc__law_followed (fun _ _ _ _ _ _ us hl => match us, hl with | [_, _, _], _ => rfl) (fun vs H Q E h => ?_) (fun cdv A outer s H vs Q E hr h => ?_)
  · obtain ⟨h, r, cs, chs, ws, i, e, es, rfl, _⟩ := h
    rfl
  · obtain ⟨h, r, cs, chs, ws, i, e, es, rfl, hh, hO, hie, hel, hst, hfit, kn, ky⟩ := h
    have nd := sc__law_followed.nd
    have hu := hu_of hr
    refine ⟨_, (pss_cons (ps_par (i := 3) (j := 4) rfl nd rfl rfl (by decide) rfl rfl (pa_cons pe_dnewK (pa_cons (pe_callTy (call_dictP rfl) (by rfl) (fr_dict T) (by decide +kernel) (pa_cons (pe_callTy call_list_of (by rfl) (fr_list T) (by decide +kernel) (pa_cons (pe_ix ix_tup (pv 1) pe_int (fun _ _ => rfl)) pa_nil)) pa_nil)) pa_nil)) (by rfl))
        (pss_cons (ps_for PassesOwn.never rfl (pi_list (pe_ix ix_list (pe_dget hu (pv 0) pe_str (fun _ _ => rfl)) (pe_ix ix_tup (pv 1) pe_int (fun _ _ => rfl)) (fun _ _ => rfl))) (pg_name (i := 5) nd rfl (Or.inl rfl)) (pss_one (ps_dput hu (pv 3) (pe_dget hu (pv 5) pe_str (fun _ _ => rfl)) (pe_dget hu (pv 4) (pe_dget hu (pv 5) pe_str (fun _ _ => rfl)) (fun _ _ => rfl)) rfl)))
        (pss_cons (ps_for PassesOwn.never rfl (pi_range2 (by rfl) (fr_range T) (pa_cons (pe_ix ix_tup (pv 1) pe_int (fun _ _ => rfl)) (pa_cons (pv 2) pa_nil))) (pg_name (i := 6) nd rfl (Or.inl rfl)) (pss_cons (ps_set (i := 3) nd rfl (Or.inl rfl) (pcall Cs hr (pa_cons (pe_ix ix_list (pe_dget hu (pv 0) pe_str (fun _ _ => rfl)) (pv 6) (fun _ _ => rfl)) (pa_cons (pv 3) (pa_cons (pe_ix ix_list (pe_dget hu (pv 0) pe_str (fun _ _ => rfl)) (pv 6) (fun _ _ => rfl)) pa_nil)))))
        (pss_one (ps_if (pt_cmpR op_isN (pv 3) pe_non (nomark _)) (pss_one (ps_ret pe_non)) pss_nil))))
        (pss_one (ps_ret (pv 3)))))), ?_⟩
    have hz : sizeLine = 16777216 := by decide
    have few := hO.few
    have g := hO.f.good hO.g i (by omega)
    have hasc := asc_at hO i (by omega)
    obtain ⟨q, as, o, h1, h2, h3, h4⟩ := id hst
    obtain ⟨sh, ca, wd, nn, eds, ed, al, e1, e2, e3, e4, e5, hc⟩ := hh.sheetR (show i ≤ chs.length by omega)
    have hrow := rowE_row hfit
    generalize hcs : (atC cs (chs.take i)).1 = cols at *
    have g6 := g.six
    have hesl : es.length = cols.length := hfit.1
    refine fun n0 nn0 => ?_
    have s0 : Same H (upd H n0 (.dK [])) := same_new nn0
    have n01 : upd H n0 (.dK []) n0 = some (.dK []) := upd_same
    generalize upd H n0 (.dK []) = H1 at s0 n01 ⊢
    refine ⟨_, rfl, r, _, 1, _, rfl, rfl, same_tup s0 h1, rfl, q, _, rfl, .inr (.inl (.inr ⟨o, s0 _ _ h2⟩)), fun l nl => ⟨l, as, es.map keyE, rfl, sqL_of upd_same, paired_of (by rw [List.length_map, h4.len]) (fun j t kv h5 h6 => ?_), fun kd nk => ⟨_, _, rfl, ?_⟩⟩⟩
    · obtain ⟨e', h7, h8⟩ := h4.at_ h5
      rw [List.getElem?_map, h7] at h6
      obtain rfl := Option.some.inj h6
      exact same_tup (s0.trans (same_new nl)) h8
    rw [merge_keyF hfit hasc]
    have s1 : Same H1 (upd (upd H1 l (.lst (as.map V.ref))) kd (.dK (es.map keyE))) := (same_new nl).trans (same_new nk)
    have s2 := s0.trans s1
    have n02 := s1 _ _ n01
    have kd2 : upd (upd H1 l (.lst (as.map V.ref))) kd (.dK (es.map keyE)) kd = some (.dK (es.map keyE)) := upd_same
    have nkn : kd ≠ n0 := fun z => by
      rw [z, (same_new (o := .lst (as.map V.ref)) nl) _ _ n01] at nk
      cases nk
    generalize upd (upd H1 l (.lst (as.map V.ref))) kd (.dK (es.map keyE)) = H2 at s2 n02 kd2 ⊢
    clear s0 n01 s1 nl nk
    dsimp only
    refine ⟨_, rfl, h, _, rfl, bh_sheets (s2 _ _ e1), _, rfl, r, _, 0, _, rfl, rfl, same_tup s2 h1, rfl, sh, _, _, .ref ed, rfl, rfl, sqL_of (s2 _ _ e2), lref_at e4, ed, rfl, ⟨_, sqL_of (s2 _ _ e5)⟩, ?_⟩
    refine for_list (xs := al.map V.ref) (fun j σ H' => ∃ (x5 : Option V), σ = [some (.ref h), some (.ref r), some (.int (e : Nat)), some (.ref n0), some (.ref kd), x5, none] ∧ But n0 H H' ∧ H' n0 = some (.dK ((rowE cols es).take j)) ∧ H' kd = some (.dK (es.map keyE)) ∧ RowD (cols.take j) ((rowE cols es).take j)) ⟨none, rfl, But.of s2, n02, kd2, by rw [List.take_zero, List.take_zero]; exact RowD.nil⟩ (fun i σ H' _ q => ?_) ?_ ?_
    · obtain ⟨_, _, b, _⟩ := q
      exact sqL_of (b _ _ (ne_of_none e5 nn0) e5)
    · rintro j x σ H' hx ⟨x5, rfl, b, hn, hk, hr0⟩
      rw [List.getElem?_map] at hx
      cases ha : al[j]? with
      | none =>
        rw [ha] at hx
        cases hx
      | some a =>
        rw [ha] at hx
        obtain rfl := Option.some.inj hx
        have s' : Same H H' := But.same b (Same.refl _) nn0
        obtain ⟨c, hci, hat0⟩ := hc.at_ ha
        have hat := s' _ _ hat0
        obtain ⟨v, hv1, hv2, hv3⟩ := rowE_at hfit hci
        have hil := (List.getElem?_eq_some_iff.mp hci).1
        have hg : DGet H' kd (.int c.num) (some v) := by
          rw [← keyF_val hfit hasc hv2]
          exact DGet.k (k := Sum.inl c.num) hk
        have htk : (rowE cols es).take (j + 1) = (rowE cols es).take j ++ [(Sum.inr c.name, v)] := by
          rw [List.take_add_one, hv1]
          rfl
        obtain ⟨f1, f2⟩ := hr0.more hci g.names hv3
        refine ⟨_, rfl, _, rfl, a, _, rfl, bc_n hat, kd, v, rfl, hg, _, rfl, _, rfl, a, _, rfl, bc_name hat, n0, _, rfl, DPut.k (k := Sum.inr c.name) hn (by rw [List.length_take]; omega), ?_⟩
        refine ⟨_, rfl, b.trans But.mut, ?_, ?_, ?_⟩
        · rw [upd_same, f1, htk]
        · rw [upd_ne nkn]
          exact hk
        · rw [htk]
          exact f2
    rintro σ H3 ⟨x5, rfl, b3, hn3, _, _⟩
    have s3 : Same H H3 := But.same b3 (Same.refl _) nn0
    rw [List.length_map, List.take_of_length_le (by rw [rowE_len, hc.len]; exact Nat.le_refl _)] at hn3
    dsimp only
    refine ⟨_, rfl, r, _, 0, _, rfl, rfl, same_tup s3 h1, rfl, _, rfl, (i : Nat), (e : Nat), rfl, by omega, ?_⟩
    have hn : (((e : Nat) : Int) - ((i : Nat) : Int)).toNat = e - i := by omega
    rw [hn]
    generalize hkv : rowE cols es = kv0 at kn ky hrow hn3
    refine for_range (fun j σ H' => ∃ (dj : Addr) (rj : List (Key × V)) (y5 y6 : Option V), σ = [some (.ref h), some (.ref r), some (.int (e : Nat)), some (.ref dj), some (.ref kd), y5, y6] ∧ Same H H' ∧ H' dj = some (.dK rj) ∧ folTo cs chs i kv0 j = some rj) ⟨n0, kv0, _, none, rfl, s3, hn3, rfl⟩ ?_ ?_
    · rintro j σ H' hj ⟨dj, rj, y5, y6, rfl, s', hd, hr1⟩
      have e0 : ((i : Nat) : Int) + (j : Int) = ((i + j : Nat) : Int) := by omega
      rw [e0]
      have hij : i + j < chs.length := by omega
      have hci : chs[i + j]? = some chs[i + j] := List.getElem?_eq_getElem hij
      obtain ⟨ft, hz2⟩ := hO.f (i + j) _ hci
      have gj := hO.f.good hO.g (i + j) (by omega)
      have rowj := folTo_row hO (by rw [hcs]; exact hrow) j (by omega) rj hr1
      obtain ⟨sh', eds', ed', al', d1, d2, d3, d4, d5, dc⟩ := (hh.keep s').sheet (show i + j ≤ chs.length by omega)
      obtain ⟨ca', ts', t', c1, c2, c3, c4, c5⟩ := (hh.keep s').change hci
      refine q_asgX ⟨_, rfl, h, _, rfl, d1, _, rfl, sh', _, _, .ref ed', rfl, rfl, sqL_of d2, lref_at d4, _, rfl, _, rfl, h, _, rfl, c1, _, rfl, ca', _, _, .ref t', rfl, rfl, sqL_of c2, lref_at c4, ed', t', dj, al', (atC cs (chs.take (i + j))).1, chs[i + j], rj, rfl, d5, dc, c5, hd, rowj, gj.names, gj.six, ft, fun H5 s5 hno => ?_, fun d' r' H5 nd' s5 hd' hyes => ?_⟩
      · refine ⟨_, rfl, rfl, _, rfl, iteDT rfl (kn H5 (s'.trans s5) ?_)⟩
        exact folTo_le (m := j + 1) (by rw [folTo_succ hr1 hci]; exact hno) (by omega)
      · refine ⟨_, rfl, rfl, _, rfl, iteD (fun z => by cases z) (nxt ⟨d', r', _, _, rfl, s'.trans s5, hd', ?_⟩)⟩
        rw [folTo_succ hr1 hci]
        exact hyes
    · rintro σ H' ⟨dj, rj, y5, y6, rfl, s', hd, hr1⟩
      exact ⟨_, rfl, ky dj rj H' s' hd hr1⟩
/-! a row told whole is told right -/
theorem RowD.told {cs : List Col} {kvs : List (Key × V)} (r : RowD cs kvs) (nd : (cs.map (·.name)).Nodup) : ToldOk cs kvs := fun c hc => by
  obtain ⟨j, hj⟩ := List.mem_iff_getElem?.mp hc
  obtain ⟨v, h1, h2⟩ := r.2 j c hj
  unfold tellV
  rw [valV_at (by rw [r.keys]; exact nodup_inr nd) h1]
  exact h2

/-! values to a greatest -/
theorem valsTo_in {g : Int} {v : V} (h : v ∈ valsTo g) : isIn g v = true := by
  unfold valsTo at h
  rcases List.mem_cons.mp h with rfl | h
  · rfl
  · unfold rgV at h
    obtain ⟨i, hi, rfl⟩ := List.mem_map.mp h
    rw [List.mem_range] at hi
    show (decide ((0 : Int) ≤ 0 + (i : Int)) && decide ((0 : Int) + (i : Int) ≤ g)) = true
    rw [Bool.and_eq_true]
    exact ⟨decide_eq_true (by omega), decide_eq_true (by omega)⟩
theorem in_vals {g : Int} {v : V} (h : isIn g v = true) : v ∈ valsTo g := by
  cases v with
  | non => exact List.mem_cons_self
  | int u =>
    have h : (decide (0 ≤ u) && decide (u ≤ g)) = true := h
    rw [Bool.and_eq_true] at h
    have g0 := of_decide_eq_true h.1
    have g1 := of_decide_eq_true h.2
    refine List.mem_cons_of_mem _ (List.mem_map.mpr ⟨u.toNat, List.mem_range.mpr (by omega), ?_⟩)
    rw [show (0 : Int) + (u.toNat : Nat) = u by omega]
  | _ => cases h

/-! entries kept, but for lists -/
theorem Ents.keepNL {K : PySem.W.Frag} {H H' : Hp} (s : KeepNL H H') : ∀ {as : List Addr} {es : List (Int × V)}, Ents K H as es → Ents K H' as es
  | _, _, .nil => .nil
  | _, _, .cons h t => .cons (sqT_keepNL s h) (t.keepNL s)

/-! all rows of an edition: what is told for them, as data -/
def stepT (c : Col) (vs : List V) (t : List (Key × V)) : List (List (Key × V)) := vs.map fun v => t ++ [(Sum.inr c.name, v)]
def tellsTo (cl : List Col) : Nat → List (List (Key × V))
  | 0 => [[]]
  | j + 1 => match cl[j]? with
    | some c => (tellsTo cl j).flatMap (stepT c (valsTo c.top))
    | none => tellsTo cl j
theorem tellsTo_succ {cl : List Col} {j : Nat} {c : Col} (h : cl[j]? = some c) : tellsTo cl (j + 1) = (tellsTo cl j).flatMap (stepT c (valsTo c.top)) := by
  show (match cl[j]? with
    | some c => (tellsTo cl j).flatMap (stepT c (valsTo c.top))
    | none => tellsTo cl j) = _
  rw [h]
theorem flat_len {α β : Type} {f : α → List β} {n : Nat} : ∀ {l : List α}, (∀ x ∈ l, (f x).length ≤ n) → (l.flatMap f).length ≤ l.length * n
  | [], _ => Nat.zero_le _
  | x :: l, h => by
    rw [List.flatMap_cons, List.length_append, List.length_cons, Nat.add_mul, Nat.one_mul, Nat.add_comm]
    exact Nat.add_le_add (flat_len fun y hy => h y (List.mem_cons_of_mem _ hy)) (h x List.mem_cons_self)
theorem vals_len {g : Int} (h : g ≤ 4) : (valsTo g).length ≤ 6 := by
  unfold valsTo
  rw [List.length_cons, rgV_length]
  omega
theorem stepT_len {c : Col} {vs : List V} {t : List (Key × V)} : (stepT c vs t).length = vs.length := List.length_map ..
theorem tells_len {cl : List Col} (up : ∀ c ∈ cl, c.top ≤ 4) : ∀ j, (tellsTo cl j).length ≤ 6 ^ j
  | 0 => Nat.le_refl 1
  | j + 1 => by
    have ih := tells_len up j
    cases h : cl[j]? with
    | none =>
      have e : tellsTo cl (j + 1) = tellsTo cl j := by
        show (match cl[j]? with
          | some c => (tellsTo cl j).flatMap (stepT c (valsTo c.top))
          | none => tellsTo cl j) = _
        rw [h]
      rw [e, Nat.pow_succ]
      omega
    | some c =>
      rw [tellsTo_succ h, Nat.pow_succ]
      refine Nat.le_trans (flat_len (n := 6) fun t _ => ?_) (Nat.mul_le_mul_right 6 ih)
      rw [stepT_len]
      exact vals_len (up c (List.mem_of_getElem? h))
theorem take_flat {α β : Type} {f : α → List β} {l : List α} {q : Nat} {x : α} (h : l[q]? = some x) : (l.take (q + 1)).flatMap f = (l.take q).flatMap f ++ f x := by
  rw [List.take_add_one, h, List.flatMap_append]
  congr 1
  exact List.flatMap_singleton ..
theorem stepT_take {c : Col} {vs : List V} {t : List (Key × V)} {u : Nat} {v : V} (h : vs[u]? = some v) : stepT c (vs.take (u + 1)) t = stepT c (vs.take u) t ++ [t ++ [(Sum.inr c.name, v)]] := by
  unfold stepT
  rw [List.take_add_one, h, List.map_append]
  rfl
/-- what is told for all rows: each row's own values, once -/
theorem tells_row {cl : List Col} (nd : (cl.map (·.name)).Nodup) : ∀ j, j ≤ cl.length → ∀ t, t ∈ tellsTo cl j ↔ RowD (cl.take j) t
  | 0, _, t => by
    constructor
    · intro h
      rw [List.mem_singleton.mp h, List.take_zero]
      exact RowD.nil
    · intro h
      have := h.1
      rw [List.take_zero] at this
      rw [List.length_eq_zero_iff.mp this]
      exact List.mem_singleton.mpr rfl
  | j + 1, hj, t => by
    have hc : cl[j]? = some cl[j] := List.getElem?_eq_getElem (by omega)
    have ih := tells_row nd j (by omega)
    rw [tellsTo_succ hc, List.mem_flatMap]
    constructor
    · rintro ⟨t0, h1, h2⟩
      obtain ⟨v, h3, rfl⟩ := List.mem_map.mp h2
      exact (((ih t0).mp h1).more hc nd (valsTo_in h3)).2
    · intro h
      have hl := h.1
      rw [List.length_take] at hl
      obtain ⟨v, h1, h2⟩ := h.2 j cl[j] (by rw [List.getElem?_take, if_pos (by omega)]; exact hc)
      have h3 : t.take (j + 1) = t := List.take_of_length_le (by omega)
      have h4 : t.take (j + 1) = t.take j ++ [(Sum.inr cl[j].name, v)] := by
        rw [List.take_add_one, h1]
        rfl
      have e : t = t.take j ++ [(Sum.inr cl[j].name, v)] := h3.symm.trans h4
      refine ⟨t.take j, (ih _).mpr ⟨by rw [List.length_take, List.length_take]; omega, fun i c hi => ?_⟩, ?_⟩
      · have hij : i < j := by
          have := (List.getElem?_eq_some_iff.mp hi).1
          rw [List.length_take] at this
          omega
        rw [List.getElem?_take, if_pos hij] at hi
        obtain ⟨v', h3, h4⟩ := h.2 i c (by rw [List.getElem?_take, if_pos (by omega)]; exact hi)
        exact ⟨v', by rw [List.getElem?_take, if_pos hij]; exact h3, h4⟩
      · refine List.mem_map.mpr ⟨v, ?_, e.symm⟩
        exact in_vals h2
/-- a row of the columns is told whole by its values -/
theorem ents_rowE {cl : List Col} {es : List (Int × V)} (nd : (cl.map (·.name)).Nodup) (f : FitE cl es) : entsL cl (rowE cl es) = es := by
  refine List.ext_getElem? fun j => ?_
  cases hc : cl[j]? with
  | none =>
    have h1 := List.getElem?_eq_none_iff.mp hc
    rw [List.getElem?_eq_none (by rw [entsL_len]; exact h1), List.getElem?_eq_none (by rw [f.1]; exact h1)]
  | some c =>
    obtain ⟨v, h1, h2, _⟩ := rowE_at f hc
    rw [entsL_at hc, h2]
    unfold tellV
    rw [valV_at (by rw [(rowE_row f).keys]; exact nodup_inr nd) h1]
    rfl
/-- dicts at the addresses, in order -/
def TellsAt (H : Hp) (ds : List Addr) (ts : List (List (Key × V))) : Prop := ds.length = ts.length ∧ ∀ (i : Nat) (d : Addr) (t : List (Key × V)), ds[i]? = some d → ts[i]? = some t → H d = some (.dK t)
theorem TellsAt.keepNL {H H' : Hp} {ds : List Addr} {ts : List (List (Key × V))} (s : KeepNL H H') (h : TellsAt H ds ts) : TellsAt H' ds ts := ⟨h.1, fun i d t h1 h2 => s _ _ (fun _ z => by cases z) (h.2 i d t h1 h2)⟩
theorem TellsAt.app {H : Hp} {ds : List Addr} {ts : List (List (Key × V))} {d : Addr} {t : List (Key × V)} (h : TellsAt H ds ts) (hd : H d = some (.dK t)) : TellsAt H (ds ++ [d]) (ts ++ [t]) := by
  refine ⟨by rw [List.length_append, List.length_append, h.1]; rfl, fun i d' t' h1 h2 => ?_⟩
  by_cases hi : i < ds.length
  · rw [List.getElem?_append_left hi] at h1
    rw [List.getElem?_append_left (by rw [← h.1]; exact hi)] at h2
    exact h.2 i d' t' h1 h2
  · rw [List.getElem?_append_right (by omega)] at h1
    rw [List.getElem?_append_right (by rw [← h.1]; omega), ← h.1] at h2
    have e : i - ds.length = 0 := by
      have := (List.getElem?_eq_some_iff.mp h1).1
      have z : [d].length = 1 := rfl
      omega
    rw [e] at h1 h2
    obtain rfl := Option.some.inj h1
    obtain rfl := Option.some.inj h2
    exact hd
/-- stored rows at the addresses, in order -/
def RowsAt (K : PySem.W.Frag) (H : Hp) (m : Nat) (rs : List Addr) (ess : List (List (Int × V))) : Prop := rs.length = ess.length ∧ ∀ (i : Nat) (r : Addr) (es : List (Int × V)), rs[i]? = some r → ess[i]? = some es → StF K H r (m : Nat) es
theorem StF.keepNL {K : PySem.W.Frag} {H H' : Hp} {r : Addr} {ed : Int} {es : List (Int × V)} (s : KeepNL H H') (h : StF K H r ed es) : StF K H' r ed es := by
  obtain ⟨q, as, o, h1, h2, h3, h4⟩ := h
  exact ⟨q, as, o, sqT_keepNL s h1, s _ _ (fun _ z => by cases z) h2, h3, Ents.keepNL s h4⟩
theorem RowsAt.keep {K : PySem.W.Frag} {H H' : Hp} {m : Nat} {rs : List Addr} {ess : List (List (Int × V))} (s : Same H H') (h : RowsAt K H m rs ess) : RowsAt K H' m rs ess := ⟨h.1, fun i r es h1 h2 => (h.2 i r es h1 h2).keep s⟩
theorem RowsAt.keepNL {K : PySem.W.Frag} {H H' : Hp} {m : Nat} {rs : List Addr} {ess : List (List (Int × V))} (s : KeepNL H H') (h : RowsAt K H m rs ess) : RowsAt K H' m rs ess := ⟨h.1, fun i r es h1 h2 => (h.2 i r es h1 h2).keepNL s⟩
theorem RowsAt.app {K : PySem.W.Frag} {H : Hp} {m : Nat} {rs : List Addr} {ess : List (List (Int × V))} {r : Addr} {es : List (Int × V)} (h : RowsAt K H m rs ess) (hd : StF K H r (m : Nat) es) : RowsAt K H m (rs ++ [r]) (ess ++ [es]) := by
  refine ⟨by rw [List.length_append, List.length_append, h.1]; rfl, fun i d' t' h1 h2 => ?_⟩
  by_cases hi : i < rs.length
  · rw [List.getElem?_append_left hi] at h1
    rw [List.getElem?_append_left (by rw [← h.1]; exact hi)] at h2
    exact h.2 i d' t' h1 h2
  · rw [List.getElem?_append_right (by omega)] at h1
    rw [List.getElem?_append_right (by rw [← h.1]; omega), ← h.1] at h2
    have e : i - rs.length = 0 := by
      have := (List.getElem?_eq_some_iff.mp h1).1
      have z : [r].length = 1 := rfl
      omega
    rw [e] at h1 h2
    obtain rfl := Option.some.inj h1
    obtain rfl := Option.some.inj h2
    exact hd

/-! greatest values bounded, of the columns of every edition -/
theorem colR_upTo {top : Int} {ch : Ch} {c c' : Col} (h : c.top ≤ top) (hu : ch.upTo top) (hc : c' ∈ colR ch c) : c'.top ≤ top := by
  cases ch with
  | drop n =>
    have hc : c' ∈ (if c.name = n then [] else [c]) := hc
    split at hc
    · cases hc
    · rw [List.mem_singleton.mp hc]
      exact h
  | add n g d =>
    rw [List.mem_singleton.mp hc]
    exact h
  | great n g way =>
    have hc : c' ∈ [if c.name = n then chgC c (.great n g way) else c] := hc
    rw [List.mem_singleton.mp hc]
    split
    · exact hu
    · exact h
  | rename n z =>
    have hc : c' ∈ [if c.name = n then chgC c (.rename n z) else c] := hc
    rw [List.mem_singleton.mp hc]
    split <;> exact h
  | dflt n v =>
    have hc : c' ∈ [if c.name = n then chgC c (.dflt n v) else c] := hc
    rw [List.mem_singleton.mp hc]
    split <;> exact h
  | fill n v =>
    have hc : c' ∈ [if c.name = n then chgC c (.fill n v) else c] := hc
    rw [List.mem_singleton.mp hc]
    split <;> exact h
theorem UpTo.cols {top : Int} {cs : List Col} {chs : List Ch} (u : UpTo top cs chs) : ∀ i, i ≤ chs.length → ∀ c ∈ colsE cs chs i, c.top ≤ top
  | 0, _, c, h => u.1 c h
  | i + 1, hi, c, h => by
    have hc : chs[i]? = some chs[i] := List.getElem?_eq_getElem (by omega)
    rw [colsE_succ hc] at h
    have hu := u.2 _ (List.getElem_mem (show i < chs.length by omega))
    rcases mem_behind.mp h with ⟨c0, h3, h4⟩ | h3
    · exact colR_upTo (UpTo.cols u i (by omega) c0 h3) hu h4
    · cases e : chs[i] with
      | add n g d =>
        rw [e] at h3 hu
        rw [List.mem_singleton.mp h3]
        exact hu
      | _ =>
        rw [e] at h3
        cases h3

/-! a comprehension over a call's new list: the call first, then the walk over what it gave -/
theorem tlc_at {K : PySem.W.Frag} {tl te : TE} {g : TG} {tt : TT} {vs : List Nat} {σ : L2.St} {H : Hp} {Q : VK} (h : tl σ H fun x H1 => tLc (iList K fun _ H' R => R x H') g tt te vs σ H1 Q) : tLc (iList K tl) g tt te vs σ H Q := h
theorem pl_rlc {wi : TI} {te : TE} {g : TG} {tt : TT} {vs : List Nat} {σ : L2.St} {H : Hp} {D : Ends} (h : tLc wi g tt te vs σ H D.rt) : tRet (tLc wi g tt te vs) D σ H := h
theorem rg2_at {lo n i : Nat} (h : i < n) : ((List.range n).map fun m : Nat => V.int ((lo : Nat) + (m : Nat)))[i]? = some (V.int ((lo : Nat) + (i : Nat))) := by
  rw [List.getElem?_map, List.getElem?_range h]
  rfl
section
variable {σ : L2.St} {H : Hp} {te : TE} {ta : TA} {tt : TT} {j : Nat} {vs : List Nat} {Q : VK}
theorem tlc_R2 (f : V → Bool) (v : V → V) (lo n : Nat) (hta : ∀ R : List V → Hp → Prop, (∀ H1, Same H H1 → R [.int (lo : Nat), .int ((lo : Nat) + (n : Nat))] H1) → ta σ H R) (hz : lo + n ≤ 100000) (hw : ∀ x, wipe ((wipe σ vs).set j (some x)) vs = wipe σ vs)
    (ht : ∀ m : Nat, m < n → ∀ H', Same H H' → ∀ R : Bool → Hp → Prop, (∀ H2, Same H' H2 → R (f (.int ((lo : Nat) + (m : Nat)))) H2) → tt ((wipe σ vs).set j (some (.int ((lo : Nat) + (m : Nat))))) H' R)
    (he : ∀ m : Nat, m < n → f (.int ((lo : Nat) + (m : Nat))) = true → ∀ H', Same H H' → ∀ R : VK, (∀ H2, Same H' H2 → R (v (.int ((lo : Nat) + (m : Nat)))) H2) → te ((wipe σ vs).set j (some (.int ((lo : Nat) + (m : Nat))))) H' R)
    (k : ∀ D H', H D = none → Same H H' → H' D = some (.lst ((((List.range n).map fun m : Nat => V.int ((lo : Nat) + (m : Nat))).filter f).map v)) → Q (.ref D) H') : tLc (iRng2 ta) (gName j) tt te vs σ H Q := by
  refine hta _ fun H1 e1 => ⟨(lo : Nat), (lo : Nat) + (n : Nat), rfl, ⟨by omega, by omega, by omega, by omega⟩, ?_⟩
  rw [show ((((lo : Nat) : Int) + ((n : Nat) : Int)) - ((lo : Nat) : Int)).toNat = n by omega]
  intro D hD
  have key : ∀ i H', i < n → (Same H1 H' ∧ H' D = some (.lst (((((List.range n).map fun m : Nat => V.int ((lo : Nat) + (m : Nat))).take i).filter f).map v))) → gName j (.int (((lo : Nat) : Int) + (i : Int))) (wipe σ vs) H' fun σ2 H2 => wipe σ2 vs = wipe σ vs ∧ tt σ2 H2 fun b H3 =>
      if b = true then te σ2 H3 fun y H4 => ∃ acc, H4 D = some (.lst acc) ∧ acc.length < sizeLine ∧ (Same H1 (upd H4 D (.lst (acc ++ [y]))) ∧ (upd H4 D (.lst (acc ++ [y]))) D = some (.lst (((((List.range n).map fun m : Nat => V.int ((lo : Nat) + (m : Nat))).take (i + 1)).filter f).map v)))
      else (Same H1 H3 ∧ H3 D = some (.lst (((((List.range n).map fun m : Nat => V.int ((lo : Nat) + (m : Nat))).take (i + 1)).filter f).map v))) := fun i H' hi p => by
    have hin : i < n := hi
    have hl := take_len (xs := (List.range n).map fun m : Nat => V.int ((lo : Nat) + (m : Nat))) f v i
    have hl2 : ((List.range n).map fun m : Nat => V.int ((lo : Nat) + (m : Nat))).length = n := by simp
    exact ⟨hw _, lc_one (N := fun H' => Same H1 H' ∧ H' D = some (.lst (((((List.range n).map fun m : Nat => V.int ((lo : Nat) + (m : Nat))).take (i + 1)).filter f).map v))) (f := f) (v := v) (x := .int ((lo : Nat) + (i : Nat))) hD (by omega) p (ht i hin H' (e1.trans p.1))
      (fun hf H2 e2 => he i hin hf H2 (e1.trans e2)) fun H2 s2 d2 => ⟨s2, by rw [d2, take_one f v (rg2_at hi)]⟩⟩
  refine lc_range (lo := (lo : Nat)) (n := n) (fun i H' => Same H1 H' ∧ H' D = some (.lst (((((List.range n).map fun m : Nat => V.int ((lo : Nat) + (m : Nat))).take i).filter f).map v))) ⟨same_new hD, ?_⟩ key fun H' p => k D H' (e1.free hD) (e1.trans p.1) ?_
  · exact upd_same
  · have q := p.2
    rw [List.take_of_length_le (by simp)] at q
    exact q
end

/-! _law_all_rows: every row of an edition, stored, by a law -/
def sp_all_rows (K : PySem.W.Frag) : Sp := fun vs H Q _ => ∃ (h : Addr) (cs : List Col) (chs : List Ch) (ws : List Str) (m : Nat), vs = [.ref h, .int (m : Nat)] ∧ BhAt K H h cs chs ws ∧ HistOk cs chs ∧ UpTo 4 cs chs ∧ m ≤ chs.length ∧
  ∀ (l : Addr) (rs : List Addr) (ess : List (List (Int × V))) (H' : Hp), H l = none → Same H H' → H' l = some (.lst (rs.map V.ref)) → RowsAt K H' m rs ess → (∀ es, es ∈ ess ↔ FitE (colsE cs chs m) es) → ess.length ≤ 46656 → Q (.ref l) H'
theorem ok_all_rows (T : Tx K mg) : Callee P w K mg base CX0 2 "_law_all_rows" ["_law_h", "_law_edition"] [] (sp_all_rows K) := by
  have Cs := ok_storedL (P := P) (w := w) (base := base) T
  refine mkCallee (fd__law_all_rows T) (mg__law_all_rows T) sc__law_all_rows (fun _ _ _ _ _ _ us hl => match us, hl with | [_, _], _ => rfl) (fun vs H Q E h => ?_) (fun cdv A outer s H vs Q E hr h => ?_)
  · obtain ⟨h, cs, chs, ws, m, rfl, _⟩ := h
    rfl
  · obtain ⟨h, cs, chs, ws, m, rfl, hh, o, up, hm, k⟩ := h
    have nd := sc__law_all_rows.nd
    have hu := hu_of hr
    refine ⟨_, (pss_cons (ps_set (i := 2) nd rfl (Or.inl rfl) (pe_lst (pa_cons pe_dnewK pa_nil)))
        (pss_cons (ps_for PassesOwn.never rfl (pi_list (pe_ix ix_list (pe_dget hu (pv 0) pe_str (fun _ _ => rfl)) (pv 1) (fun _ _ => rfl))) (pg_name (i := 3) nd rfl (Or.inl rfl)) (pss_cons (ps_set (i := 4) nd rfl (Or.inl rfl) (pe_lst pa_nil))
        (pss_cons (ps_for PassesOwn.never rfl (pi_list (pv 2)) (pg_name (i := 5) nd rfl (Or.inl rfl)) (pss_one (ps_for PassesOwn.never rfl (pi_list (pe_op op_cat (pe_lst (pa_cons pe_non pa_nil)) (pe_listRg rfl (by rfl) (fr_list T) (prg_1 (by rfl) (fr_range T) (pe_op op_add (pe_dget hu (pv 3) pe_str (fun _ _ => rfl)) pe_int))))) (pg_name (i := 6) nd rfl (Or.inl rfl)) (pss_cons (ps_set (i := 7) nd rfl (Or.inl rfl) (pe_callTy call_dictD (by rfl) (fr_dict T) (by decide +kernel) (pa_cons (pv 5) pa_nil)))
        (pss_cons (ps_dput hu (pv 7) (pe_dget hu (pv 3) pe_str (fun _ _ => rfl)) (pv 6) rfl)
        (pss_one (ps_expr (pe_bm PySem.F.plainAttrs_list PySem.F.slot_list_append PySem.F.type_list_append mt_append (pv 4) (pa_cons (pv 7) pa_nil)))))))))
        (pss_one (ps_set (i := 2) nd rfl (Or.inl rfl) (pv 4))))))
        (pss_one (ps_ret (pe_lc (own := [("_law_told", 5)]) (g := gName 5) (tt := tYes) (te := tCall (sp_storedL K) [] E0 (tCons (tVar 0) (tCons (tVar 1) (tCons (tVar 5) tNil)))) rfl nd (pi_list (pv 2)) (blkOk_by (N := ["_law_h", "_law_edition", "_law_found", "_law_col", "_law_later", "_law_told", "_law_value", "_law_one"]) (sc := defScope s__law_all_rows) (by decide +kernel)) (fun _ _ _ _ _ => (pg_name (i := 5) nd rfl (Or.inl rfl))) (fun _ _ _ _ _ => pts_nil) (fun _ _ _ _ _ => (pcall Cs hr (pa_cons (pv 0) (pa_cons (pv 1) (pa_cons (pv 5) pa_nil)))))))))), ?_⟩
    have hsl : sizeLine = 16777216 := by decide
    have g := o.f.good o.g m hm
    have hasc := asc_at o m hm
    have upc := UpTo.cols up m hm
    obtain ⟨sh, ca, wd, nn, es, e, as, e1, e2, e3, e4, e5, hc⟩ := hh.sheetR hm
    generalize hcl : colsE cs chs m = cl at k upc
    have hc : BCols H as cl := hcl ▸ hc
    have g : Good cl (numE cs chs m) := hcl ▸ g
    have hasc : Asc cl := hcl ▸ hasc
    have g6 := g.six
    have pw6 : ∀ j, j ≤ 6 → 6 ^ j ≤ 46656 := fun j hj => Nat.le_trans (Nat.pow_le_pow_right (by decide) hj) (by decide)
    refine q_asgX fun d0 nd0 => ⟨by show 1 ≤ sizeLine; decide, fun f0 nf0 => ?_⟩
    have s0 : Same H (upd (upd H d0 (.dK [])) f0 (.lst [.ref d0])) := (same_new nd0).trans (same_new nf0)
    have hf0 : upd (upd H d0 (.dK [])) f0 (.lst [.ref d0]) f0 = some (.lst [.ref d0]) := upd_same
    have hd0 : upd (upd H d0 (.dK [])) f0 (.lst [.ref d0]) d0 = some (.dK []) := same_new nf0 _ _ upd_same
    generalize upd (upd H d0 (.dK [])) f0 (.lst [.ref d0]) = H1 at s0 hf0 hd0 ⊢
    dsimp only
    refine ⟨_, rfl, h, _, rfl, bh_sheets (s0 _ _ e1), _, rfl, sh, _, _, .ref e, rfl, rfl, sqL_of (s0 _ _ e2), lref_at e4, e, rfl, ⟨_, sqL_of (s0 _ _ e5)⟩, ?_⟩
    refine for_list (xs := as.map V.ref) (fun j σ H' => Same H H' ∧ ∃ (f : Addr) (ds : List Addr) (x3 x4 x5 x6 x7 : Option V), σ = [some (.ref h), some (.int (m : Nat)), some (.ref f), x3, x4, x5, x6, x7] ∧ H' f = some (.lst (ds.map V.ref)) ∧ TellsAt H' ds (tellsTo cl j)) ⟨s0, f0, [d0], none, none, none, none, none, rfl, hf0, rfl, fun i d t h1 h2 => ?_⟩ (fun i σ H' _ q => sqL_of (q.1 _ _ e5)) ?_ ?_
    · have hi : i = 0 := by
        have := (List.getElem?_eq_some_iff.mp h1).1
        have z : [d0].length = 1 := rfl
        omega
      subst hi
      obtain rfl := Option.some.inj h1
      obtain rfl : ([] : List (Key × V)) = t := Option.some.inj h2
      exact hd0
    · rintro j x σ H' hx ⟨s', f, ds, x3, x4, x5, x6, x7, rfl, hf, hT⟩
      rw [List.getElem?_map] at hx
      cases ha : as[j]? with
      | none =>
        rw [ha] at hx
        cases hx
      | some a =>
      rw [ha] at hx
      obtain rfl := Option.some.inj hx
      obtain ⟨c, hcj, hat0⟩ := hc.at_ ha
      have hat := s' _ _ hat0
      have hjl := (List.getElem?_eq_some_iff.mp hcj).1
      have hup := upc c (List.mem_of_getElem? hcj)
      obtain ⟨t1, t9⟩ := gr_of (g.ok c (List.mem_of_getElem? hcj)).1
      have hvl := vals_len hup
      have tl := tells_len upc j
      have tl6 := pw6 j (by omega)
      refine q_asgX ⟨by show 0 ≤ sizeLine; decide, fun l nl => ?_⟩
      have s2 : Same H' (upd H' l (.lst [])) := same_new nl
      have hl2 : upd H' l (.lst []) l = some (.lst []) := upd_same
      generalize upd H' l (.lst []) = H2 at s2 hl2 ⊢
      dsimp only
      have hf2 := s2 _ _ hf
      refine ⟨_, rfl, f, rfl, ⟨_, sqL_of hf2⟩, ?_⟩
      refine for_list (xs := ds.map V.ref) (fun q σ H3 => But l H2 H3 ∧ ∃ (ls : List Addr) (x5 x6 x7 : Option V), σ = [some (.ref h), some (.int (m : Nat)), some (.ref f), some (.ref a), some (.ref l), x5, x6, x7] ∧ H3 l = some (.lst (ls.map V.ref)) ∧ TellsAt H3 ls (((tellsTo cl j).take q).flatMap (stepT c (valsTo c.top)))) ⟨But.refl _ _, [], _, _, _, rfl, hl2, rfl, fun i d t h1 h2 => by cases h1⟩ (fun i σ H3 _ q => sqL_of ((But.same q.1 s2 nl) _ _ hf)) ?_ ?_
      · rintro q x σ H3 hx ⟨b3, ls0, y5, y6, y7, rfl, hl3, hT3⟩
        rw [List.getElem?_map] at hx
        cases hd : ds[q]? with
        | none =>
          rw [hd] at hx
          cases hx
        | some d =>
        rw [hd] at hx
        obtain rfl := Option.some.inj hx
        have hql : q < (tellsTo cl j).length := by
          rw [← hT.1]
          exact (List.getElem?_eq_some_iff.mp hd).1
        have htq : (tellsTo cl j)[q]? = some (tellsTo cl j)[q] := List.getElem?_eq_getElem hql
        generalize (tellsTo cl j)[q] = t at htq
        have hdt := hT.2 q d t hd htq
        have htr := (tells_row g.names j (by omega) t).mp (List.mem_of_getElem? htq)
        have s3 : Same H' H3 := But.same b3 s2 nl
        refine ⟨by decide, fun l0 nl0 => ?_⟩
        have sl : Same H3 (upd H3 l0 (.lst [.non])) := same_new nl0
        refine ⟨_, rfl, a, _, rfl, bc_g (sl _ _ (s3 _ _ hat)), _, _, rfl, rfl, _, rfl, .of_le (by omega) (by omega) (by omega) (by omega), fun q0 hq => ?_⟩
        have nq : l0 ≠ q0 := ne_of_none upd_same hq
        refine ⟨l0, q0, _, _, rfl, rfl, (by rw [upd_ne nq]; exact upd_same), upd_same, ?_, fun p hp => ?_⟩
        · rw [rgV_length]
          have : sizeLine = 16777216 := by decide
          rw [this]
          show 1 + (c.top + 1 - 0).toNat ≤ _
          omega
        have s4 : Same H3 (upd (upd (upd H3 l0 (.lst [.non])) q0 (.lst (rgV 0 (c.top + 1)))) p (.lst (valsTo c.top))) := (sl.trans (same_new hq)).trans (same_new hp)
        have hp4 : upd (upd (upd H3 l0 (.lst [.non])) q0 (.lst (rgV 0 (c.top + 1)))) p (.lst (valsTo c.top)) p = some (.lst (valsTo c.top)) := upd_same
        have npl : l ≠ p := ne_of_none ((sl.trans (same_new hq)) _ _ hl3) hp
        refine ⟨p, rfl, ⟨valsTo c.top, sqL_of hp4⟩, ?_⟩
        show ∃ W : Nat → Nat → L2.St → Hp → Prop, (∃ m, W 0 m _ (upd (upd (upd H3 l0 (.lst [.non])) q0 (.lst (rgV 0 (c.top + 1)))) p (.lst (valsTo c.top)))) ∧ _
        generalize upd (upd (upd H3 l0 (.lst [.non])) q0 (.lst (rgV 0 (c.top + 1)))) p (.lst (valsTo c.top)) = H4 at s4 hp4 ⊢
        generalize hdone : ((tellsTo cl j).take q).flatMap (stepT c (valsTo c.top)) = done at hT3
        have hdl : done.length ≤ 279936 := by
          rw [← hdone]
          refine Nat.le_trans (flat_len (n := 6) fun t _ => by rw [stepT_len]; exact hvl) ?_
          rw [List.length_take]
          omega
        refine for_list (xs := valsTo c.top) (fun u σ H5 => But l H2 H5 ∧ H5 p = some (.lst (valsTo c.top)) ∧ ∃ (ls : List Addr) (x6 x7 : Option V), σ = [some (.ref h), some (.int (m : Nat)), some (.ref f), some (.ref a), some (.ref l), some (.ref d), x6, x7] ∧ H5 l = some (.lst (ls.map V.ref)) ∧ TellsAt H5 ls (done ++ stepT c ((valsTo c.top).take u) t)) ⟨b3.trans (But.of s4), hp4, ls0, _, _, rfl, s4 _ _ hl3, ?_⟩ (fun i σ H5 _ q => sqL_of q.2.1) ?_ ?_
        · have : stepT c ((valsTo c.top).take 0) t = [] := rfl
          rw [this, List.append_nil]
          exact hT3.keepNL (KeepNL.of s4)
        · rintro u v σ H5 hv ⟨b5, hp5, ls, z6, z7, rfl, hl5, hT5⟩
          have s5 : Same H' H5 := But.same b5 s2 nl
          have hul := (List.getElem?_eq_some_iff.mp hv).1
          refine q_asgX ⟨_, rfl, d, t, rfl, .inl (s5 _ _ hdt), fun w nw => ?_⟩
          have s6 : Same H5 (upd H5 w (.dK t)) := same_new nw
          have hm := htr.more hcj g.names (valsTo_in (List.mem_of_getElem? hv))
          have htl : t.length ≤ 6 := by
            rw [htr.1, List.length_take]
            omega
          have hsl : sizeLine = 16777216 := by decide
          dsimp only
          refine ⟨_, rfl, _, rfl, _, rfl, a, _, rfl, bc_name (s6 _ _ (s5 _ _ hat)), w, _, rfl, DPut.k (k := Sum.inr c.name) (upd_same : upd H5 w (.dK t) w = some (.dK t)) (by omega), ?_⟩
          rw [hm.1]
          have s7 : Same H5 (upd (upd H5 w (.dK t)) w (.dK (t ++ [(Sum.inr c.name, v)]))) := same_mut s6 nw
          have hw7 : upd (upd H5 w (.dK t)) w (.dK (t ++ [(Sum.inr c.name, v)])) w = some (.dK (t ++ [(Sum.inr c.name, v)])) := upd_same
          generalize upd (upd H5 w (.dK t)) w (.dK (t ++ [(Sum.inr c.name, v)])) = H7 at s7 hw7 ⊢
          have hl7 := s7 _ _ hl5
          refine ⟨_, rfl, .inl ⟨rfl, _, sqL_of hl7⟩, _, rfl, l, _, _, rfl, rfl, hl7, ?_, ?_⟩
          · have h1 := hT5.1
            rw [List.length_append, stepT_len, List.length_take] at h1
            rw [List.length_map]
            omega
          have kp : KeepNL H5 (upd H7 l (.lst (ls.map V.ref ++ [.ref w]))) := fun b o n e => KeepNL.lst hl7 b o n (s7 _ _ e)
          refine ⟨(b5.trans (But.of s7)).trans But.mut, ?_, ls ++ [w], _, _, rfl, ?_, ?_⟩
          · rw [upd_ne npl.symm]
            exact s7 _ _ hp5
          · rw [upd_same, List.map_append]
            rfl
          · rw [stepT_take hv, ← List.append_assoc]
            refine (hT5.keepNL kp).app ?_
            rw [upd_ne (fun z => by rw [z, hl7] at hw7; cases hw7)]
            exact hw7
        · rintro σ H5 ⟨b5, hp5, ls, z6, z7, rfl, hl5, hT5⟩
          rw [List.take_length, ← hdone, ← take_flat htq] at hT5
          exact ⟨b5, ls, _, _, _, rfl, hl5, hT5⟩
      rintro σ H3 ⟨b3, ls, y5, y6, y7, rfl, hl3, hT3⟩
      rw [List.length_map, hT.1, List.take_length, ← tellsTo_succ hcj] at hT3
      exact ⟨_, rfl, s'.trans (But.same b3 s2 nl), l, ls, _, _, _, _, _, rfl, hl3, hT3⟩
    rintro σ H2 ⟨s2, f, ds, x3, x4, x5, x6, x7, rfl, hf, hT⟩
    rw [List.length_map, hc.len] at hT
    have tl := tells_len upc cl.length
    have tl6 := pw6 cl.length g6
    generalize hts : tellsTo cl cl.length = ts at hT tl
    have mem : ∀ t, t ∈ ts ↔ RowD cl t := fun t => by
      have := tells_row g.names cl.length (Nat.le_refl _) t
      rw [List.take_length, hts] at this
      exact this
    have hdl := hT.1
    dsimp only
    refine pl_rlc ?_
    refine tlc_G (K := K) (xs := ds.map V.ref) (fun i y H' => ∃ r t, y = .ref r ∧ ts[i]? = some t ∧ StF K H' r (m : Nat) (entsL cl t)) (fun i y H1 H2 s2 ⟨t, e, h1, h2, h3⟩ => ⟨t, e, h1, h2, h3.keepNL s2⟩) (fun R h => ⟨_, rfl, h f H2 (Same.refl _) (sqL_of hf)⟩) (by rw [List.length_map]; omega) (fun _ => rfl) ?_ ?_
    · intro i x hx H3 s3 R hR
      rw [List.getElem?_map] at hx
      cases hd : ds[i]? with
      | none =>
        rw [hd] at hx
        cases hx
      | some d =>
      rw [hd] at hx
      obtain rfl := Option.some.inj hx
      have hil : i < ts.length := by
        rw [← hdl]
        exact (List.getElem?_eq_some_iff.mp hd).1
      have hti : ts[i]? = some ts[i] := List.getElem?_eq_getElem hil
      have hdt := hT.2 i d _ hd hti
      refine ⟨_, rfl, _, rfl, _, rfl, h, d, cs, chs, ws, m, ts[i], rfl, hh.keep (s2.trans s3), hm, s3 _ _ hdt, ?_, ?_, fun r H4 nr s4 st => ?_⟩
      · show (colsE cs chs m).length ≤ 60
        rw [hcl]
        omega
      · show Asc (colsE cs chs m)
        rw [hcl]
        exact hasc
      · have st : StF K H4 r (m : Nat) (entsL (colsE cs chs m) ts[i]) := st
        rw [hcl] at st
        exact hR _ _ s4 ⟨r, ts[i], rfl, hti, st⟩
    intro D ys H3 nD s3 hD hlen hy
    obtain ⟨rs, rfl, hrs⟩ : ∃ rs : List Addr, ys = rs.map V.ref ∧ ∀ (i : Nat) (r : Addr), rs[i]? = some r → ∃ t, ts[i]? = some t ∧ StF K H3 r (m : Nat) (entsL cl t) := by
      have : ∀ (ys : List V), (∀ y ∈ ys, ∃ r, y = .ref r) → ∃ rs : List Addr, ys = rs.map V.ref := fun ys => by
        induction ys with
        | nil => exact fun _ => ⟨[], rfl⟩
        | cons y ys ih =>
          intro h
          obtain ⟨r, rfl⟩ := h _ List.mem_cons_self
          obtain ⟨rs, rfl⟩ := ih fun y hy => h y (List.mem_cons_of_mem _ hy)
          exact ⟨r :: rs, rfl⟩
      obtain ⟨rs, rfl⟩ := this ys fun y hym => by
        obtain ⟨i, hi⟩ := List.mem_iff_getElem?.mp hym
        obtain ⟨r, t, h1, _⟩ := hy i y hi
        exact ⟨r, h1⟩
      refine ⟨rs, rfl, fun i r hr => ?_⟩
      obtain ⟨r', t, h1, h2, h3⟩ := hy i (.ref r) (by rw [List.getElem?_map, hr]; rfl)
      obtain rfl := V.ref.inj h1
      exact ⟨t, h2, h3⟩
    rw [List.length_map, List.length_map] at hlen
    refine k D rs (ts.map (entsL cl)) H3 (s2.free nD) (s2.trans s3) hD ⟨by rw [List.length_map]; omega, fun i r es h1 h2 => ?_⟩ (fun es => ?_) (by rw [List.length_map]; omega)
    · obtain ⟨t, h3, h4⟩ := hrs i r h1
      rw [List.getElem?_map, h3] at h2
      obtain rfl := Option.some.inj h2
      exact h4
    · rw [List.mem_map]
      constructor
      · rintro ⟨t, h1, rfl⟩
        exact (RowD.told ((mem t).mp h1) g.names).fit
      · intro h1
        exact ⟨rowE cl es, (mem _).mpr (rowE_row h1), ents_rowE g.names h1⟩
/-! _law_piece: the same columns, other changes, where they can be done -/
theorem colB_putn (c : Col) : putK (colB c) (Sum.inr "n") (.int c.num) = colB c := by
  have k3 : ¬ ((Sum.inr "name" : Key) = (Sum.inr "n" : Key)) := by decide +kernel
  have k5 : ¬ ((Sum.inr "g" : Key) = (Sum.inr "n" : Key)) := by decide +kernel
  have k6 : ¬ ((Sum.inr "d" : Key) = (Sum.inr "n" : Key)) := by decide +kernel
  simp [colB, putK, k3, k5, k6]
theorem bh_merge0 {sh ch : Addr} {n : Int} : mergeK [] [(Sum.inr "sheets", .ref sh), (Sum.inr "changes", .ref ch), (Sum.inr "given", .int n)] = bhDict sh ch n none := by
  have h1 : ¬ ((Sum.inr "sheets" : Key) = (Sum.inr "changes" : Key)) := by decide +kernel
  have h2 : ¬ ((Sum.inr "sheets" : Key) = (Sum.inr "given" : Key)) := by decide +kernel
  have h4 : ¬ ((Sum.inr "changes" : Key) = (Sum.inr "given" : Key)) := by decide +kernel
  simp [mergeK, putK, bhDict, wordsK, h1, h2, h4]
theorem BCols.take {H : Hp} : ∀ {as : List Addr} {cs : List Col} (m : Nat), BCols H as cs → BCols H (as.take m) (cs.take m)
  | _, _, 0, _ => .nil
  | _, _, _ + 1, .nil => .nil
  | _, _, m + 1, .cons h t => .cons h (t.take m)
theorem in_isVP {t : Int} {v : V} (h : isIn t v = true) : isVal v = true := by
  cases v with
  | non => rfl
  | int i =>
    have h : (decide (0 ≤ i) && _) = true := h
    exact (Bool.and_eq_true_iff.mp h).1
  | _ => cases h
def sp_piece (K : PySem.W.Frag) : Sp := fun vs H Q _ => ∃ (lc lt : Addr) (as ts : List Addr) (cs : List Col) (dhs : List Ch), vs = [.ref lc, .ref lt] ∧ H lc = some (.lst (as.map V.ref)) ∧ BCols H as cs ∧ Placed cs ∧ Good cs cs.length ∧ H lt = some (.lst (ts.map V.ref)) ∧ Chs K H ts dhs ∧ (∀ c ∈ dhs, c.fits = true) ∧ dhs.length ≤ 40 ∧
  (∀ H', Same H H' → dhs ≠ [] → Q .non H') ∧ ∀ (h' : Addr) (H' : Hp), H h' = none → Same H H' → BhAt K H' h' cs dhs [] → Fits cs dhs → Q (.ref h') H'
theorem ok_piece (T : Tx K mg) : Callee P w K mg base CX0 6 "_law_piece" ["_law_cols", "_law_changes"] [] (sp_piece K) := by
  have Cw := (ok_why (P := P) (w := w) (base := base) T).up (show 2 ≤ 5 by decide)
  have Cl := ok_longer (P := P) (w := w) (base := base) T
  refine mkCallee (fd__law_piece T) (mg__law_piece T) sc__law_piece (fun _ _ _ _ _ _ us hl => match us, hl with | [_, _], _ => rfl) (fun vs H Q E h => ?_) (fun cdv A outer s H vs Q E hr h => ?_)
  · obtain ⟨lc, lt, as, ts, cs, dhs, rfl, _⟩ := h
    rfl
  obtain ⟨lc, lt, as, ts, cs, dhs, rfl, hl, hc, pl, g, ht, hd, hf, few, kn, ky⟩ := h
  have nd := sc__law_piece.nd
  have hu := hu_of hr
  refine ⟨_, (pss_cons (ps_set (i := 2) nd rfl (Or.inl rfl) (pe_lst pa_nil))
        (pss_cons (ps_for PassesOwn.never rfl (pi_range1 (by rfl) (fr_range T) (pa_cons (pe_callB call_len (by rfl) (fr_len T) PySem.boot_len (pa_cons (pv 0) pa_nil)) pa_nil)) (pg_name (i := 3) nd rfl (Or.inl rfl)) (pss_cons (ps_set (i := 4) nd rfl (Or.inl rfl) (pe_callTy call_dictD (by rfl) (fr_dict T) (by decide +kernel) (pa_cons (pe_ix ix_list (pv 0) (pv 3) (fun _ _ => rfl)) pa_nil)))
        (pss_cons (ps_dput hu (pv 4) pe_str (pv 3) rfl)
        (pss_one (ps_set (i := 2) nd rfl (Or.inl rfl) (pe_op op_cat (pv 2) (pe_lst (pa_cons (pv 4) pa_nil))))))))
        (pss_cons (ps_set (i := 5) nd rfl (Or.inl rfl) (pe_disp (pps_cons pe_str (pe_lst (pa_cons (pv 2) pa_nil)) (pps_cons pe_str (pe_lst pa_nil) (pps_cons pe_str (pe_callB call_len (by rfl) (fr_len T) PySem.boot_len (pa_cons (pv 0) pa_nil)) pps_nil))) (by rfl) (by rfl) (fun z => by cases z) (by decide)))
        (pss_cons (ps_for PassesOwn.never rfl (pi_list (pv 1)) (pg_name (i := 6) nd rfl (Or.inl rfl)) (pss_cons (ps_if (pt_cmpR op_notN (pcall Cw hr (pa_cons (pe_ix ix_list (pe_dget hu (pv 5) pe_str (fun _ _ => rfl)) (pe_un un_neg pe_int) (fun _ _ => rfl)) (pa_cons (pv 6) pa_nil))) pe_non (nomark _)) (pss_one (ps_ret pe_non)) pss_nil)
        (pss_one (ps_set (i := 5) nd rfl (Or.inl rfl) (pcall Cl hr (pa_cons (pv 5) (pa_cons (pv 6) pa_nil)))))))
        (pss_one (ps_ret (pv 5))))))), ?_⟩
  have hsl : sizeLine = 16777216 := by decide
  have six := g.six
  have hal := hc.len
  refine q_asgX ⟨by show 0 ≤ sizeLine; decide, fun f0 nf0 => ?_⟩
  have s0 : Same H (upd H f0 (.lst [])) := same_new nf0
  have hf0 : upd H f0 (.lst []) f0 = some (.lst (([] : List Addr).map V.ref)) := upd_same
  generalize upd H f0 (.lst []) = H0 at s0 hf0 ⊢
  refine ⟨_, rfl, _, as.length, rfl, .inl ⟨_, sqL_of (s0 _ _ hl), by rw [List.length_map]⟩, _, rfl, by omega, by omega, ?_⟩
  refine for_range (lo := 0) (n := as.length) (fun i σ H' => Same H H' ∧ ∃ (f : Addr) (fs : List Addr) (y3 y4 y5 y6 : Option V), σ = [some (.ref lc), some (.ref lt), some (.ref f), y3, y4, y5, y6] ∧ H f = none ∧ H' f = some (.lst (fs.map V.ref)) ∧ BCols H' fs (cs.take i)) ⟨s0, f0, [], none, none, none, none, rfl, nf0, hf0, .nil⟩ ?_ ?_
  · rintro i σ H1 hi ⟨s1, f, fs, y3, y4, y5, y6, rfl, nf, hf1, hb⟩
    have hia : as[i]? = some as[i] := List.getElem?_eq_getElem hi
    obtain ⟨c, hci, hat⟩ := hc.at_ hia
    have hnum : c.num = (i : Nat) := pl i c hci
    have hat1 := s1 _ _ hat
    have ixa : atI (as.map V.ref) (0 + (i : Int)) = some (.ref as[i]) := by
      rw [Int.zero_add]
      exact atI_nat (by rw [List.getElem?_map, hia]; rfl)
    refine q_asgX ⟨_, rfl, _, rfl, lc, _, _, _, rfl, rfl, sqL_of (s1 _ _ hl), ixa, _, _, rfl, .inl hat1, fun q nq => ?_⟩
    have s2 : Same H1 (upd H1 q (.dK (colB c))) := same_new nq
    have hq : upd H1 q (.dK (colB c)) q = some (.dK (colB c)) := upd_same
    have nq0 : H q = none := s1.free nq
    dsimp only
    refine ⟨_, rfl, _, rfl, q, _, rfl, DPut.k (k := Sum.inr "n") hq (by show 4 < sizeLine; decide), ?_⟩
    rw [upd_upd, show putK (colB c) (Sum.inr "n") (V.int (0 + (i : Int))) = colB c by rw [Int.zero_add, ← hnum]; exact colB_putn c]
    generalize upd H1 q (.dK (colB c)) = H2 at s2 hq ⊢
    refine ⟨_, rfl, _, rfl, by show 1 ≤ sizeLine; decide, fun u nu => ?_⟩
    have s3 := s2.trans (same_new (o := .lst [.ref q]) nu)
    have hfl := hb.len
    rw [List.length_take] at hfl
    refine ⟨f, u, _, _, rfl, rfl, s3 _ _ hf1, upd_same, ?_, fun f2 nf2 => ?_⟩
    · rw [List.length_map]
      show fs.length + 1 ≤ _
      omega
    have s4 := s3.trans (same_new (o := .lst (fs.map V.ref ++ [.ref q])) nf2)
    have hf2 : upd (upd H2 u (.lst [.ref q])) f2 (.lst (fs.map V.ref ++ [.ref q])) f2 = some (.lst ((fs ++ [q]).map V.ref)) := by rw [upd_same, List.map_append]; rfl
    have hq4 := (same_new (o := .lst (fs.map V.ref ++ [.ref q])) nf2) _ _ ((same_new (o := .lst [.ref q]) nu) _ _ hq)
    have nf2' := s3.free nf2
    generalize upd (upd H2 u (.lst [.ref q])) f2 (.lst (fs.map V.ref ++ [.ref q])) = H4 at s4 hf2 hq4 ⊢
    refine ⟨s1.trans s4, f2, fs ++ [q], _, _, _, _, rfl, s1.free nf2', hf2, ?_⟩
    rw [List.take_add_one, hci]
    exact (hb.keep s4).app (.cons hq4 .nil)
  rintro σ H1 ⟨s1, f, fs, y3, y4, y5, y6, rfl, nf, hf1, hb⟩
  rw [hal, List.take_length] at hb
  dsimp only
  refine q_asgX fun q nq => ?_
  have sq : Same H1 (upd H1 q (.dK [])) := same_new nq
  have q1 : upd H1 q (.dK []) q = some (.dK []) := upd_same
  generalize upd H1 q (.dK []) = H2 at sq q1 ⊢
  refine ⟨_, rfl, by show 1 ≤ sizeLine; decide, fun sh nsh => ⟨by show 0 ≤ sizeLine; decide, fun ca nca => ?_⟩⟩
  have s2 : Same H2 (upd (upd H2 sh (.lst [.ref f])) ca (.lst [])) := (same_new nsh).trans (same_new nca)
  have sh2 : upd (upd H2 sh (.lst [.ref f])) ca (.lst []) sh = some (.lst [.ref f]) := same_new nca _ _ upd_same
  have ca2 : upd (upd H2 sh (.lst [.ref f])) ca (.lst []) ca = some (.lst []) := upd_same
  have nsq : sh ≠ q := fun e => by rw [e, q1] at nsh; cases nsh
  have ncq : ca ≠ q := fun e => by
    rw [e, (same_new (o := .lst [.ref f]) nsh) _ _ q1] at nca
    cases nca
  have s12 := sq.trans s2
  generalize upd (upd H2 sh (.lst [.ref f])) ca (.lst []) = H3 at s2 sh2 ca2 s12 ⊢
  refine ⟨_, rfl, _, as.length, rfl, .inl ⟨_, sqL_of (s12 _ _ (s1 _ _ hl)), by rw [List.length_map]⟩, s2 _ _ q1, [(Sum.inr "sheets", .ref sh), (Sum.inr "changes", .ref ca), (Sum.inr "given", .int (as.length : Nat))], rfl, by show 3 ≤ 15; decide, ?_⟩
  rw [bh_merge0]
  have nqH : H q = none := s1.free nq
  have s4 : Same H (upd H3 q (.dK (bhDict sh ca as.length none))) := same_mut (s1.trans s12) nqH
  have s34 : Same H1 (upd H3 q (.dK (bhDict sh ca as.length none))) := same_mut s12 nq
  have hB : BhAt K (upd H3 q (.dK (bhDict sh ca as.length none))) q cs [] [] := by
    refine ⟨sh, ca, none, [f], [], ?_, ?_, ⟨rfl, fun i e c h1 h2 => ?_⟩, ?_, .nil, rfl⟩
    · rw [upd_same, hal]
      rfl
    · rw [upd_ne nsq]
      exact sh2
    · cases i with
      | zero =>
        obtain rfl : f = e := Option.some.inj h1
        obtain rfl : cs = c := Option.some.inj h2
        exact ⟨fs, s34 _ _ hf1, hb.keep s34⟩
      | succ i => simp at h1
    · rw [upd_ne ncq]
      exact ca2
  generalize upd H3 q (.dK (bhDict sh ca as.length none)) = H4 at s4 hB ⊢
  dsimp only
  refine ⟨_, rfl, lt, rfl, ⟨_, sqL_of (s4 _ _ ht)⟩, ?_⟩
  have htl := hd.len
  refine for_list (xs := ts.map V.ref) (fun i σ H' => Same H H' ∧ ∃ (hx : Addr) (y3 y4 y6 : Option V), σ = [some (.ref lc), some (.ref lt), some (.ref f), y3, y4, some (.ref hx), y6] ∧ H hx = none ∧ BhAt K H' hx cs (dhs.take i) [] ∧ Fits cs (dhs.take i)) ⟨s4, q, _, _, _, rfl, nqH, hB, fun i ch h => by simp at h⟩ (fun i σ H' _ p => sqL_of (p.1 _ _ ht)) ?_ ?_
  · rintro i x σ H5 hx ⟨s5, hx5, y3, y4, y6, rfl, nhx, hB5, hF5⟩
    rw [List.getElem?_map] at hx
    cases hti : ts[i]? with
    | none =>
      rw [hti] at hx
      cases hx
    | some t =>
      rw [hti] at hx
      obtain rfl := Option.some.inj hx
      obtain ⟨ch, hci, hta⟩ := hd.at_ hti
      have hit : i < dhs.length := (List.getElem?_eq_some_iff.mp hci).1
      have hfi := hf ch (List.mem_of_getElem? hci)
      have lenT : (dhs.take i).length = i := by rw [List.length_take]; omega
      obtain ⟨sh5, es, e, al, e1, e2, e3, e4, e5, e6⟩ := hB5.sheet (m := i) (by omega)
      rw [List.take_of_length_le (Nat.le_of_eq lenT)] at e6
      rw [lenT] at e3
      have gi : Good (atC cs (dhs.take i)).1 (atC cs (dhs.take i)).2 := by
        have := hF5.good g i (by omega)
        rwa [List.take_of_length_le (Nat.le_of_eq lenT)] at this
      have sixi := gi.six
      have hell := e6.len
      refine ⟨_, rfl, hx5, _, rfl, e1, 1, rfl, sh5, _, -1, _, rfl, rfl, sqL_of e2, at_last e3 e4, _, rfl, e, t, al, _, ch, rfl, sqL_of e5, e6, by omega, fun c hcm => in_isVP (gi.ok c hcm).1.df, hta.keep s5, hfi, fun H6 s6 => ⟨rfl, _, rfl, ?_⟩⟩
      by_cases hz : hindV (atC cs (dhs.take i)).1 ch = .non
      · rw [hz]
        refine iteNS rfl (nxt ?_)
        refine ⟨_, rfl, _, rfl, hx5, t, cs, dhs.take i, [], ch, rfl, hB5.keep s6, hta.keep (s5.trans s6), gi, hfi, hz, by omega, fun h' H7 nh' s7 hB7 => ?_⟩
        have e8 : dhs.take (i + 1) = dhs.take i ++ [ch] := by rw [List.take_add_one, hci]; rfl
        refine ⟨(s5.trans s6).trans s7, h', _, _, _, rfl, (s5.trans s6).free nh', ?_, ?_⟩
        · rw [e8]
          exact hB7
        · rw [e8]
          exact hF5.app hfi hz
      · exact iteNF hz (kn H6 (s5.trans s6) fun z => by rw [z] at hit; simp at hit)
  · rintro σ H5 ⟨s5, hx5, y3, y4, y6, rfl, nhx, hB5, hF5⟩
    rw [List.length_map, htl, List.take_length] at hB5 hF5
    exact ⟨_, rfl, ky hx5 H5 nhx s5 hB5 hF5⟩
/-! _law_heads: greatest value and default by the names of the present -/
inductive HeadsAt (K : PySem.W.Frag) (H : Hp) : List (Key × V) → List Col → Prop
  | nil : HeadsAt K H [] []
  | cons {u : Addr} {c : Col} {kvs : List (Key × V)} {cl : List Col} : SqT K H u [.int c.top, c.dflt] → HeadsAt K H kvs cl → HeadsAt K H ((Sum.inr c.name, .ref u) :: kvs) (c :: cl)
theorem HeadsAt.keep {K : PySem.W.Frag} {H H' : Hp} (s : Same H H') : ∀ {kvs : List (Key × V)} {cl : List Col}, HeadsAt K H kvs cl → HeadsAt K H' kvs cl
  | _, _, .nil => .nil
  | _, _, .cons h t => .cons (same_tup s h) (t.keep s)
theorem HeadsAt.keys {K : PySem.W.Frag} {H : Hp} : ∀ {kvs : List (Key × V)} {cl : List Col}, HeadsAt K H kvs cl → kvs.map (·.1) = (cl.map (·.name)).map Sum.inr
  | _, _, .nil => rfl
  | _, _, .cons _ t => by
    rw [List.map_cons, t.keys]
    rfl
theorem HeadsAt.get {K : PySem.W.Frag} {H : Hp} {n : Str} : ∀ {kvs : List (Key × V)} {cl : List Col}, HeadsAt K H kvs cl → (cl.find? (isN n) = none ∧ valV kvs (Sum.inr n) = none) ∨ ∃ c u, cl.find? (isN n) = some c ∧ valV kvs (Sum.inr n) = some (.ref u) ∧ SqT K H u [.int c.top, c.dflt]
  | _, _, .nil => .inl ⟨rfl, rfl⟩
  | _, _, .cons (u := u) (c := c) (kvs := kvs) (cl := cl) h t => by
    by_cases e : c.name = n
    · subst e
      refine .inr ⟨c, u, ?_, valV_pos rfl, h⟩
      rw [List.find?_cons, show isN c.name c = true from decide_eq_true rfl]
    · have e1 : (c :: cl).find? (isN n) = cl.find? (isN n) := by rw [List.find?_cons, show isN n c = false from decide_eq_false e]
      have e2 : valV ((Sum.inr c.name, V.ref u) :: kvs) (Sum.inr n) = valV kvs (Sum.inr n) := by
        have ne : ¬ ((Sum.inr c.name : Key) = Sum.inr n) := fun z => e (Sum.inr.inj z)
        simp [valV, ne]
      rw [e1, e2]
      exact t.get
/-- pairs of a name and a pair, gathered -/
theorem heads_of {K : PySem.W.Frag} {H : Hp} : ∀ {ys : List V} {cl : List Col}, ys.length = cl.length → (∀ (i : Nat) (y : V), ys[i]? = some y → ∃ t u c, y = .ref t ∧ cl[i]? = some c ∧ SqT K H t [.str c.name, .ref u] ∧ SqT K H u [.int c.top, c.dflt]) →
    ∃ (ps : List Addr) (kvs : List (Key × V)), ys = ps.map V.ref ∧ Paired (fun p kv => SqT K H p [kV kv.1, kv.2]) ps kvs ∧ HeadsAt K H kvs cl
  | [], [], _, _ => ⟨[], [], rfl, .nil, .nil⟩
  | y :: ys, c :: cl, hl, h => by
    obtain ⟨t, u, c', rfl, hc, h1, h2⟩ := h 0 y rfl
    obtain rfl := Option.some.inj (show some c = some c' from hc)
    obtain ⟨ps, kvs, rfl, h3, h4⟩ := heads_of (Nat.succ.inj hl) fun i z hz => h (i + 1) z hz
    exact ⟨t :: ps, (Sum.inr c.name, .ref u) :: kvs, rfl, .cons h1 h3, .cons h2 h4⟩
  | [], _ :: _, hl, _ => by cases hl
  | _ :: _, [], hl, _ => by cases hl
def sp_heads (K : PySem.W.Frag) : Sp := fun vs H Q _ => ∃ (h : Addr) (cs : List Col) (chs : List Ch) (ws : List Str), vs = [.ref h] ∧ BhAt K H h cs chs ws ∧ HistOk cs chs ∧ ∀ (d : Addr) (kvs : List (Key × V)) (H' : Hp), Same H H' → H' d = some (.dK kvs) → HeadsAt K H' kvs (atC cs chs).1 → Q (.ref d) H'
theorem ok_heads (T : Tx K mg) : Callee P w K mg base CX0 1 "_law_heads" ["_law_h"] [] (sp_heads K) := by
  refine mkCallee (fd__law_heads T) (mg__law_heads T) sc__law_heads (fun _ _ _ _ _ _ us hl => match us, hl with | [_], _ => rfl) (fun vs H Q E h => ?_) (fun cdv A outer s H vs Q E hr h => ?_)
  · obtain ⟨h, cs, chs, ws, rfl, _⟩ := h
    rfl
  obtain ⟨h, cs, chs, ws, rfl, hh, o, k⟩ := h
  have nd := sc__law_heads.nd
  have hu := hu_of hr
  refine ⟨_, (pss_one (ps_ret (pe_callTy (call_dictP rfl) (by rfl) (fr_dict T) (by decide +kernel) (pa_cons (pe_lc (own := [("_law_col", 1)]) (g := gName 1) (tt := tYes) (te := tTup (tCons (tDGet (tVar 1) (tC (.str "name"))) (tCons (tTup (tCons (tDGet (tVar 1) (tC (.str "g"))) (tCons (tDGet (tVar 1) (tC (.str "d"))) tNil))) tNil))) rfl nd (pi_list (pe_ix ix_list (pe_dget hu (pv 0) pe_str (fun _ _ => rfl)) (pe_un un_neg pe_int) (fun _ _ => rfl))) (blkOk_by (N := ["_law_h", "_law_col"]) (sc := defScope s__law_heads) (by decide +kernel)) (fun _ _ _ _ _ => (pg_name (i := 1) nd rfl (Or.inl rfl))) (fun _ _ _ _ _ => pts_nil) (fun _ _ _ _ _ => (pe_tup (pa_cons (pe_dget hu (pv 1) pe_str (fun _ _ => rfl)) (pa_cons (pe_tup (pa_cons (pe_dget hu (pv 1) pe_str (fun _ _ => rfl)) (pa_cons (pe_dget hu (pv 1) pe_str (fun _ _ => rfl)) pa_nil))) pa_nil))))) pa_nil)))), ?_⟩
  obtain ⟨sh, es, e, as, e1, e2, e3, e4, e5, e6⟩ := hh.sheet (m := chs.length) (Nat.le_refl _)
  rw [List.take_length] at e6
  have g : Good (atC cs chs).1 (atC cs chs).2 := by
    have := o.f.good o.g chs.length (Nat.le_refl _)
    rwa [List.take_length] at this
  have six := g.six
  have hal := e6.len
  refine pl_r1 ?_
  refine tlc_G (K := K) (xs := as.map V.ref) (fun i y H' => ∃ t u c, y = .ref t ∧ (atC cs chs).1[i]? = some c ∧ SqT K H' t [.str c.name, .ref u] ∧ SqT K H' u [.int c.top, c.dflt]) (fun i y H1 H2 s2 ⟨t, u, c, h1, h2, h3, h4⟩ => ⟨t, u, c, h1, h2, sqT_keepNL s2 h3, sqT_keepNL s2 h4⟩)
    (fun R q => ⟨_, rfl, h, _, rfl, e1, 1, rfl, sh, _, -1, _, rfl, rfl, sqL_of e2, at_last e3 e4, q e H (Same.refl _) (sqL_of e5)⟩) (by rw [List.length_map]; omega) (fun _ => rfl) ?_ ?_
  · intro i x hx H1 s1 R hR
    rw [List.getElem?_map] at hx
    cases ha : as[i]? with
    | none =>
      rw [ha] at hx
      cases hx
    | some a =>
      rw [ha] at hx
      obtain rfl := Option.some.inj hx
      obtain ⟨c, hci, hat⟩ := e6.at_ ha
      have ha1 := s1 _ _ hat
      refine ⟨_, rfl, a, _, rfl, bc_name ha1, _, rfl, a, _, rfl, bc_g ha1, _, rfl, a, _, rfl, bc_d ha1, by show 2 ≤ sizeLine; decide, fun u nu => ⟨by show 2 ≤ sizeLine; decide, fun t nt => ?_⟩⟩
      exact hR _ _ ((same_new nu).trans (same_new nt)) ⟨t, u, c, rfl, hci, sqT_of upd_same, same_tup (same_new nt) (sqT_of upd_same)⟩
  · intro D ys H' nD s' hD hlen' hy
    obtain ⟨ps, kvs, rfl, hp, hk⟩ := heads_of (by rw [hlen', List.length_map, hal]) hy
    refine ⟨D, ps, kvs, rfl, sqL_of hD, hp, fun d nd' => ?_⟩
    have em : mergeK [] kvs = kvs := by
      have := merge_new kvs [] (by
        rw [List.nil_append, hk.keys]
        exact List.Pairwise.map (S := fun a b : Key => a ≠ b) _ (fun a b h z => h (Sum.inr.inj z)) g.names)
      rw [List.nil_append] at this
      exact this
    rw [em]
    exact k d kvs _ (s'.trans (same_new nd')) upd_same (hk.keep (same_new nd'))
-- needs: is_unlike +ALLR +ROWEQ
/-! the tuples of a law that may show that two histories are not alike -/
inductive TupB (K : PySem.W.Frag) (H : Hp) (cs : List Col) (chs dhs : List Ch) : V → Bool → Prop
  | col {p : Addr} {n : Str} (h : SqT K H p [.str "column", .str n]) : TupB K H cs chs dhs (.ref p) (colUnl (colsAt cs chs .non) (colsAt cs dhs .non) (.str n))
  | row {p r : Addr} {es : List (Int × V)} (h : SqT K H p [.str "row", .ref r]) (hs : StF K H r 0 es) (hf : FitE cs es) : TupB K H cs chs dhs (.ref p) ((endE cs chs 0 es).isNone != (endE cs dhs 0 es).isNone)
  | read {p r : Addr} {n : Str} {es : List (Int × V)} (h : SqT K H p [.str "read", .ref r, .str n]) (hs : StF K H r 0 es) (hf : FitE cs es) : TupB K H cs chs dhs (.ref p) (readUnl (endE cs chs 0 es) (endE cs dhs 0 es) (.str n))
theorem TupB.keep {K : PySem.W.Frag} {H H' : Hp} {cs : List Col} {chs dhs : List Ch} {x : V} {b : Bool} (s : Same H H') (h : TupB K H cs chs dhs x b) : TupB K H' cs chs dhs x b := by
  cases h with
  | col h => exact .col (same_tup s h)
  | row h hs hf => exact .row (same_tup s h) (hs.keep s) hf
  | read h hs hf => exact .read (same_tup s h) (hs.keep s) hf
theorem TupB.un {K : PySem.W.Frag} {H : Hp} {cs : List Col} {chs dhs : List Ch} {x : V} {b : Bool} (h : TupB K H cs chs dhs x b) : UnV K H cs chs dhs x b := by
  cases h with
  | col h => exact .col h (.inl ⟨_, rfl⟩)
  | row h hs hf => exact .row h ⟨hs, hf, Nat.zero_le _⟩ ⟨hs, hf, Nat.zero_le _⟩
  | read h hs hf => exact .read h ⟨hs, hf, Nat.zero_le _⟩ ⟨hs, hf, Nat.zero_le _⟩ (.inl ⟨_, rfl⟩)
/-- pairs of a whole number and a value compared -/
theorem head_eqv {g g' : Int} {d d' : V} (h : isVal d = true) (h' : isVal d' = true) : PyData.eqv (.tuple [.int g, dtV d]) (.tuple [.int g', dtV d']) = !(!decide (V.int g = V.int g') || !decide (d = d')) := by
  have e1 : PyData.eqv (.int g) (.int g') = decide (V.int g = V.int g') := by
    show (g == g') = _
    rw [Bool.eq_iff_iff, beq_iff_eq, decide_eq_true_iff]
    exact ⟨fun z => by rw [z], fun z => V.int.inj z⟩
  have e2 : PyData.eqv (dtV d) (dtV d') = decide (d = d') := by
    cases d with
    | non =>
      cases d' with
      | non => rfl
      | int j => exact (decide_eq_false fun z => by cases z).symm
      | _ => cases h'
    | int i =>
      cases d' with
      | non => exact (decide_eq_false fun z => by cases z).symm
      | int j =>
        show (i == j) = _
        rw [Bool.eq_iff_iff, beq_iff_eq, decide_eq_true_iff]
        exact ⟨fun z => by rw [z], fun z => V.int.inj z⟩
      | _ => cases h'
    | _ => cases h
  show (PyData.eqv (.int g) (.int g') && (PyData.eqv (dtV d) (dtV d') && true)) = _
  rw [e1, e2, Bool.and_true, Bool.not_or, Bool.not_not, Bool.not_not]
theorem head_shaped {g : Int} {d : V} (h : isVal d = true) : SeqAt.shaped (.tuple [.int g, dtV d]) = true := by
  cases d with
  | non => rfl
  | int i => rfl
  | _ => cases h

/-! two stored rows compared: data of three levels -/
def dtE (e : Int × V) : PyData := .tuple [.int e.1, dtV e.2]
def dtRow (m : Int) (es : List (Int × V)) : PyData := .tuple [.int m, .tuple (es.map dtE)]
theorem dp_ents {K : PySem.W.Frag} {H : Hp} : ∀ {as : List Addr} {es : List (Int × V)}, Ents K H as es → (∀ e ∈ es, okV e.2 = true) → DpAll K H (as.map V.ref) (es.map dtE)
  | _, _, .nil, _ => .nil
  | _, _, .cons h t, q => .cons (.tup h (.cons (.int _) (.cons (dp_ok (q _ List.mem_cons_self)) .nil))) (dp_ents t fun e m => q e (List.mem_cons_of_mem _ m))
theorem dp_row {K : PySem.W.Frag} {H : Hp} {r : Addr} {m : Int} {es : List (Int × V)} (h : StF K H r m es) (q : ∀ e ∈ es, okV e.2 = true) : Dp K H (.ref r) (dtRow m es) := by
  obtain ⟨a, as, o, h1, h2, h3, h4⟩ := h
  exact .tup h1 (.cons (.int _) (.cons (.tup (.inl (.inr ⟨o, h2⟩)) (dp_ents h4 q)) .nil))
theorem ents_lay : ∀ {es : List (Int × V)}, (∀ e ∈ es, okV e.2 = true) → PyData.canLayAll0 (es.map dtE) = true ∧ PyData.depthAll (es.map dtE) ≤ 1
  | [], _ => ⟨rfl, Nat.zero_le _⟩
  | e :: r, q => by
    obtain ⟨h1, h2⟩ := lay_ok (q e List.mem_cons_self)
    obtain ⟨h3, h4⟩ := ents_lay (es := r) fun e m => q e (List.mem_cons_of_mem _ m)
    constructor
    · show ((true && (PyData.canLay0 (dtV e.2) && true)) && PyData.canLayAll0 (r.map dtE)) = true
      rw [h1, h3]
      rfl
    · show max (max 0 (max (PyData.depth (dtV e.2)) 0) + 1) (PyData.depthAll (r.map dtE)) ≤ 1
      rw [h2]
      omega
theorem row_shaped {m : Int} {es : List (Int × V)} (q : ∀ e ∈ es, okV e.2 = true) : SeqAt.shaped (dtRow m es) = true := by
  obtain ⟨h1, h2⟩ := ents_lay q
  unfold SeqAt.shaped
  rw [Bool.and_eq_true]
  constructor
  · show (true && (PyData.canLayAll0 (es.map dtE) && true)) = true
    rw [h1]
    rfl
  · refine decide_eq_true ?_
    show max 0 (max (PyData.depthAll (es.map dtE) + 1) 0) + 1 ≤ 64
    omega
theorem ents_eqv : ∀ {es : List (Int × V)}, (∀ e ∈ es, okV e.2 = true) → PyData.eqvAll (es.map dtE) (es.map dtE) = true
  | [], _ => rfl
  | e :: r, q => by
    show (PyData.eqv (dtE e) (dtE e) && PyData.eqvAll (r.map dtE) (r.map dtE)) = true
    rw [ents_eqv fun e m => q e (List.mem_cons_of_mem _ m), Bool.and_true]
    show (PyData.eqv (.int e.1) (.int e.1) && (PyData.eqv (dtV e.2) (dtV e.2) && true)) = true
    have e1 : PyData.eqv (.int e.1) (.int e.1) = true := eqv_ok (x := .int e.1) rfl
    rw [eqv_ok (q e List.mem_cons_self), e1]
    rfl
theorem row_eqv {m : Int} {es : List (Int × V)} (q : ∀ e ∈ es, okV e.2 = true) : PyData.eqv (dtRow m es) (dtRow m es) = true := by
  show (PyData.eqv (.int m) (.int m) && (PyData.eqv (.tuple (es.map dtE)) (.tuple (es.map dtE)) && true)) = true
  have e1 : PyData.eqv (.int m) (.int m) = true := eqv_ok (x := .int m) rfl
  rw [e1, Bool.true_and, Bool.and_true]
  exact ents_eqv q
theorem ne_rows {K : PySem.W.Frag} {H : Hp} {r r' : Addr} {m : Int} {es : List (Int × V)} {Q : VK} (h : StF K H r m es) (h' : StF K H r' m es) (q : ∀ e ∈ es, okV e.2 = true) (k : Q (.bl false) H) : rNeD K (.ref r) (.ref r') H Q := by
  refine ⟨dtRow m es, dtRow m es, dp_row h q, dp_row h' q, row_shaped q, row_shaped q, ?_⟩
  rw [row_eqv q]
  exact k
theorem in_ok {t : Int} {v : V} (h : isIn t v = true) : okV v = true ∧ flatB v = true := by
  cases v with
  | non => exact ⟨rfl, rfl⟩
  | int _ => exact ⟨rfl, rfl⟩
  | _ => cases h
theorem fit_ok {cs : List Col} {es : List (Int × V)} (f : FitE cs es) : ∀ e ∈ es, okV e.2 = true := fun e he => by
  obtain ⟨j, hj⟩ := List.mem_iff_getElem?.mp he
  have hl := (List.getElem?_eq_some_iff.mp hj).1
  rw [f.1] at hl
  obtain ⟨v, h1, h2⟩ := f.2 j _ (List.getElem?_eq_getElem hl)
  obtain rfl := Option.some.inj (hj.symm.trans h1)
  exact (in_ok h2).1

-- needs: +ROWEQ +ALLR
/-! rows of an edition as data, in a list -/
def dtRows (m : Nat) (ess : List (List (Int × V))) : List PyData := ess.map (dtRow (m : Nat))
theorem rows_in {K : PySem.W.Frag} {H : Hp} {m : Nat} {rs : List Addr} {ess : List (List (Int × V))} (h : RowsAt K H m rs ess) (q : ∀ es ∈ ess, ∀ e ∈ es, okV e.2 = true) : DpAll K H (rs.map V.ref) (dtRows m ess) := by
  obtain ⟨hl, h2⟩ := h
  induction rs generalizing ess with
  | nil =>
    cases ess with
    | nil => exact .nil
    | cons _ _ => cases hl
  | cons r rs ih =>
    cases ess with
    | nil => cases hl
    | cons es ess =>
      refine .cons (dp_row (h2 0 r es rfl rfl) (q es List.mem_cons_self)) (ih (fun es h => q es (List.mem_cons_of_mem _ h)) (Nat.succ.inj hl) fun i r es h1 h3 => h2 (i + 1) r es (by simpa using h1) (by simpa using h3))
theorem rows_lay {m : Nat} : ∀ {ess : List (List (Int × V))}, (∀ es ∈ ess, ∀ e ∈ es, okV e.2 = true) → PyData.canLayAll0 (dtRows m ess) = true ∧ PyData.depthAll (dtRows m ess) ≤ 3
  | [], _ => ⟨rfl, Nat.zero_le _⟩
  | es :: r, q => by
    obtain ⟨h1, h2⟩ := ents_lay (q es List.mem_cons_self)
    obtain ⟨h3, h4⟩ := rows_lay (m := m) (ess := r) fun e z => q e (List.mem_cons_of_mem _ z)
    constructor
    · show ((true && (PyData.canLayAll0 (es.map dtE) && true)) && PyData.canLayAll0 (dtRows m r)) = true
      rw [h1, h3]
      rfl
    · show max (max 0 (max (PyData.depthAll (es.map dtE) + 1) 0) + 1) (PyData.depthAll (dtRows m r)) ≤ 3
      omega
theorem rows_shaped {m : Nat} {ess : List (List (Int × V))} (q : ∀ es ∈ ess, ∀ e ∈ es, okV e.2 = true) : SeqAt.shaped (.list (dtRows m ess)) = true := by
  obtain ⟨h1, h2⟩ := rows_lay (m := m) q
  unfold SeqAt.shaped
  rw [Bool.and_eq_true]
  constructor
  · show PyData.canLayAll0 (dtRows m ess) = true
    exact h1
  · refine decide_eq_true ?_
    show PyData.depthAll (dtRows m ess) + 1 ≤ 64
    omega

/-! readings, one step on -/
theorem pl_lstV {ta : TA} {σ : L2.St} {H : Hp} {Q : VK} (h : ta σ H fun xs H1 => xs.length ≤ sizeLine ∧ ∀ p, H1 p = none → Q (.ref p) (upd H1 p (.lst xs))) : tLst ta σ H Q := h
theorem pl_parV {ta : TA} {i j : Nat} {U : TS} {D : Ends} {σ : L2.St} {H : Hp} (h : ta σ H fun vs H1 => ∃ v w, vs = [v, w] ∧ U D ((σ.set i (some v)).set j (some w)) H1) : tSeq (tPar i j ta) U D σ H := h

/-! x != y of instances with an own __eq__ and no own __ne__ -/
theorem kfo_specialB {prog : Program} {w : World} {A : Around} {E : Value → Shared → Prop} {s : Shared} {K : PySem.W.Frag} {x C : Addr} {ox : Obj} {od : Option Obj} {name : Str} {id : String} {args : List Value} {Q : Option Value → Shared → Prop} (X : K.In s.heap) (I : PySem.W.InstAt s.heap x ox C od) (hs : PySem.W.findIn K (.ref C) name = some (some (.builtin id)))
    (hb : ∀ self, bindSpecial (.builtin id) self = pure (.builtin id, [self])) (h : wpAny (model prog w) A (call (.builtin id) (.ref x :: args)) (fun v => Q (some v)) E s) : wpAny (model prog w) A (callSpecialIfBound? (.ref x) name args) Q E s := by
  simp only [callSpecialIfBound?, bindSpecialIfBound?]
  refine wpAny_holding (wpAny_bind (wpAny_bind (wpAny_bind (I.type.here ((PySem.W.looks_findIn X hs).here ?_)))))
  refine wpAny_bind (wpAny_askSetting (wpAny_ite ?_))
  have fin : wpAny (model prog w) A (call (.builtin id) ([.ref x] ++ args) >>= fun v => pure (some v)) Q E s := wpAny_bind (wpAny_mono h (fun v s' h' => wpAny_pure h') fun _ _ h' => h')
  split
  · exact wpAny_bind ((PySem.W.Looks.of_pure (hb _)).here (wpAny_pure (by exact fin)))
  · exact wpAny_tryCatch (wpAny_bind ((PySem.W.Looks.of_pure (hb _)).here (wpAny_pure (by exact fin))))
section
variable {X : Cx} {CX : CXT} {k : Nat} {f C : Addr} {fd : FuncData} {ps : List Str} {sp : Sp} {E : XK}
def rNeOwn (C : Addr) (sp : Sp) (E : XK) : R2 := fun x y H Q => ∃ a dx fs b dy gs, x = .ref a ∧ y = .ref b ∧ H a = some (.ins C dx fs) ∧ H b = some (.ins C dy gs) ∧ sp [x, y] H (fun z H' => ∃ c, z = .bl c ∧ Q (.bl (!c)) H') E
theorem op_neOwn (F : FnOk X.prog X.w X.K X.mg X.base CX k f fd ps sp) (hm : Meth X.K C "__eq__" f) (nc : NeC X.K C) (hr : Room (k + 1) X.A) (hb : Binds X.K fd ps []) (hx : Passes CX X E) : OpR X (compareOp .NotEq) (rNeOwn C sp E) := by
  intro pins s σ H x y v u Q I rx ry h
  obtain ⟨a, dx, fs, b, dy, gs, rfl, rfl, ha, hb', q⟩ := h
  cases (show v = Value.ref a from rx)
  cases (show u = Value.ref b from ry)
  obtain ⟨mA, J, _⟩ := ins_get I.hok ha
  obtain ⟨od, J, _⟩ := J.look
  obtain ⟨mB, J', _⟩ := ins_get I.hok hb'
  obtain ⟨od', J', _⟩ := J'.look
  obtain ⟨m, hF⟩ := I.fr
  show wpAny (model X.prog X.w) X.A (richCompare .NotEq (.ref a) (.ref b)) (EP X pins σ Q) X.xe s
  have run : wpAny (model X.prog X.w) X.A.in1 (call (.ref f) [.ref a, .ref b]) (fun v s' => ∃ c, v = .bool c ∧ EP X pins σ Q (.bool (!c)) s') X.xe s := by
    refine wpAny_mono (runA (us := [.ref a, .ref b]) (vs := [.ref a, .ref b]) F hr.in1 I.env0.in1 hb hx I (.cons rfl (.cons rfl .nil)) q) (fun r s' z => ?_) fun _ _ e => e
    obtain ⟨z', H', I', rz, c, ec, qz⟩ := z
    subst ec
    cases (show r = Value.bool c from rz)
    exact ⟨c, rfl, .bl (!c), H', I', rfl, qz⟩
  have one : wpAny (model X.prog X.w) X.A (tryCompare (.ref a) "__ne__" (.ref b)) (fun r s' => ∃ v, r = some v ∧ EP X pins σ Q v s') X.xe s := by
    unfold tryCompare
    refine wpAny_bind (kfo_specialB I.kIn J nc.at_ PySem.F.cmp_object.ne.bind (wpAny_call (codeAny_call_builtin PySem.F.cmp_object.ne.plain PySem.F.cmpEntry_ne (PySem.W.check_slot PySem.F.cmpKind_ne PySem.F.cmpSplit_ne (J.type.andThen (PySem.W.looks_mroIn I.kIn nc.ob)) (PySem.F.cmpArgs_ne _ _) ?_))))
    unfold Builtin.«object.__ne__»
    refine wpAny_bind (m := slotArgs "__ne__" 1 _) (wpAny_pure ?_)
    refine wpAny_bind (m := cRoomFor _ _) (wpAny_cRoomFor hr.in1.units0 ?_)
    refine wpAny_bind (m := callSpecialIfBound? (.ref a) (Str.ofString "__eq__") [.ref b]) (PySem.W.ifBound_K I.kIn J hm.at_ hm.fn (wpAny_mono run (fun r s' hr' => ?_) fun _ _ e => e))
    obtain ⟨c, rfl, hc⟩ := hr'
    refine wpAny_bind (m := truthy (.bool c)) (wpAny_truthy_bool ?_)
    refine wpAny_pure ?_
    exact wpAny_pure ⟨_, rfl, hc⟩
  unfold richCompare
  simp only [oneThing_ref]
  refine wpAny_holding (wpAny_bind (wpAny_cRoomFor hr.units0 ?_))
  rw [cmpInfo_NotEq]
  dsimp only
  refine wpAny_bind (J.type.here (wpAny_bind (J'.type.here ?_)))
  rw [show (Value.ref C != Value.ref C) = false from by simp]
  simp only [Bool.false_eq_true, if_false]
  refine wpAny_bind (wpAny_pure ?_)
  simp only [Bool.false_eq_true, if_false]
  refine wpAny_bind (wpAny_mono one (fun r s' z => ?_) fun _ _ e => e)
  obtain ⟨v, rfl, hq⟩ := z
  exact wpAny_pure hq
end
theorem hr64 {k : Nat} {A : Around} (r : Room k A) : A.units + 64 < cLine := by
  have := r.un
  omega
/-- a test that compares, the last of its block: the first side first -/
theorem pl_ifop {σ : L2.St} {H : Hp} {D : Ends} {ta tb : TE} {r : R2} {t u : TS} (h : ta σ H fun x H1 => tb σ H1 fun y H2 => r x y H2 fun z H3 => ∃ b, z = .bl b ∧ (if b = true then t D σ H3 else u D σ H3)) : tIfS (tB (tOp r ta tb)) t u D σ H := h

/-! _law_shows: whether a tuple shows that two histories are not alike, by a law -/
/-- what a row is followed to, as a value -/
def FolV (H : Hp) (v : V) (o : Option (List (Key × V))) : Prop := (v = .non ∧ o = none) ∨ ∃ d k, v = .ref d ∧ H d = some (.dK k) ∧ o = some k
theorem FolV.keep {H H' : Hp} {v : V} {o : Option (List (Key × V))} (s : Same H H') (h : FolV H v o) : FolV H' v o := by
  rcases h with h | ⟨d, k, h1, h2, h3⟩
  · exact .inl h
  · exact .inr ⟨d, k, h1, s _ _ h2, h3⟩
theorem FolV.isN {H : Hp} {v : V} {o : Option (List (Key × V))} (h : FolV H v o) : decide (v = .non) = o.isNone := by
  rcases h with ⟨rfl, rfl⟩ | ⟨d, k, rfl, _, rfl⟩
  · rfl
  · exact decide_eq_false fun z => by cases z
theorem val_okV {v : V} (h : isVal v = true) : okV v = true := by
  cases v with
  | non => rfl
  | int i => rfl
  | _ => cases h
theorem cols_all (cs : List Col) (chs : List Ch) : colsAt cs chs .non = (atC cs chs).1 := by
  unfold colsAt
  show (atC cs (chs.take ((chs.length : Nat) : Int).toNat)).1 = _
  rw [Int.toNat_natCast, List.take_length]
theorem good_all {cs : List Col} {chs : List Ch} (o : HistOk cs chs) : Good (atC cs chs).1 (atC cs chs).2 := by
  have := o.f.good o.g chs.length (Nat.le_refl _)
  rwa [List.take_length] at this
def sp_shows (K : PySem.W.Frag) : Sp := fun vs H Q _ => ∃ (h m : Addr) (cs : List Col) (chs dhs : List Ch) (ws us : List Str) (x : V) (b : Bool), vs = [.ref h, .ref m, x] ∧ BhAt K H h cs chs ws ∧ BhAt K H m cs dhs us ∧ HistOk cs chs ∧ HistOk cs dhs ∧ UpTo 4 cs chs ∧ TupB K H cs chs dhs x b ∧ ∀ H', Same H H' → Q (.bl b) H'
theorem ok_shows (T : Tx K mg) : Callee P w K mg base CX0 5 "_law_shows" ["_law_h", "_law_m", "_law_value"] [] (sp_shows K) := by
  have Chd := (ok_heads (P := P) (w := w) (base := base) T).up (show 1 ≤ 4 by decide)
  have Ca := (ok_all_rows (P := P) (w := w) (base := base) T).up (show 2 ≤ 4 by decide)
  have Cf := ok_followedL (P := P) (w := w) (base := base) T
  refine mkCallee (fd__law_shows T) (mg__law_shows T) sc__law_shows (fun _ _ _ _ _ _ us hl => match us, hl with | [_, _, _], _ => rfl) (fun vs H Q E h => ?_) (fun cdv A outer s H vs Q E hr h => ?_)
  · obtain ⟨h, m, cs, chs, dhs, ws, us, x, b, rfl, _⟩ := h
    rfl
  obtain ⟨h, m, cs, chs, dhs, ws, us, x, b, rfl, hh, hm, o, o2, up, tb, k⟩ := h
  have nd := sc__law_shows.nd
  have hu := hu_of hr
  have h64 := hr64 hr
  have hu1 := Nat.lt_of_le_of_lt (Nat.le_trans (Nat.add_le_add_left (show 65 ≤ 16 * 4 + 200 by decide) _) (Nat.le_of_eq (Nat.add_assoc _ _ _).symm)) hr.un
  have gl : mg "len" = none := fr_len T
  refine ⟨_, (pss_cons (ps_if (PW.pt (pw_or (pt_not (pt_val (pe_callB call_isi (by rfl) (fr_isinstance T) (by decide +kernel) (pa_cons (pv 2) (pa_cons (pe_bltn (v := .ty "tuple") (by rfl) (fr_tuple T) (by decide +kernel) rfl) pa_nil))))) (pw_or1 (pt_cmpR op_lt (pe_callB call_len (by rfl) gl PySem.boot_len (pa_cons (pv 2) pa_nil)) pe_int (nomark _))))) (pss_one (ps_ret pe_bl)) pss_nil)
        (pss_cons (ps_if (pt_cmpR op_eq (pe_ix ix_tup (pv 2) pe_int (fun _ _ => rfl)) pe_str (nomark _)) (pss_one (ps_ret (pe_and (pe_cmpR op_eq (pe_callB call_len (by rfl) gl PySem.boot_len (pa_cons (pv 2) pa_nil)) pe_int (nomark _)) (pe_one (pe_cmpR (op_neD h64) (pe_dget1 hu (pcall Chd hr (pa_cons (pv 0) pa_nil)) (pe_ix ix_tup (pv 2) pe_int (fun _ _ => rfl)) ⟨by rfl, by rfl, by rfl, by rfl⟩) (pe_dget1 hu (pcall Chd hr (pa_cons (pv 1) pa_nil)) (pe_ix ix_tup (pv 2) pe_int (fun _ _ => rfl)) ⟨by rfl, by rfl, by rfl, by rfl⟩) (nomark _)))))) pss_nil)
        (pss_cons (ps_if (pt_cmpR (op_notInD hu1) (pe_ix ix_tup (pv 2) pe_int (fun _ _ => rfl)) (pcall Ca hr (pa_cons (pv 0) (pa_cons pe_int pa_nil))) (by rfl)) (pss_one (ps_ret pe_bl)) pss_nil)
        (pss_cons (ps_par (i := 3) (j := 4) rfl nd rfl rfl (by decide) rfl rfl (pa_cons (pcall Cf hr (pa_cons (pv 0) (pa_cons (pe_ix ix_tup (pv 2) pe_int (fun _ _ => rfl)) (pa_cons (pe_callB call_len (by rfl) gl PySem.boot_len (pa_cons (pe_dget hu (pv 0) pe_str (fun _ _ => rfl)) pa_nil)) pa_nil)))) (pa_cons (pcall Cf hr (pa_cons (pv 1) (pa_cons (pe_ix ix_tup (pv 2) pe_int (fun _ _ => rfl)) (pa_cons (pe_callB call_len (by rfl) gl PySem.boot_len (pa_cons (pe_dget hu (pv 1) pe_str (fun _ _ => rfl)) pa_nil)) pa_nil)))) pa_nil)) (by rfl))
        (pss_cons (ps_if (pt_cmpR op_eq (pe_ix ix_tup (pv 2) pe_int (fun _ _ => rfl)) pe_str (nomark _)) (pss_one (ps_ret (pe_and (pe_cmpR op_eq (pe_callB call_len (by rfl) gl PySem.boot_len (pa_cons (pv 2) pa_nil)) pe_int (nomark _)) (pe_one (pe_cmpR op_ne (pe_cmpR op_isN (pv 3) pe_non (nomark _)) (pe_cmpR op_isN (pv 4) pe_non (nomark _)) (nomark _)))))) pss_nil)
        (pss_cons (ps_if (PW.pt (pw_or (pt_cmpR op_ne (pe_ix ix_tup (pv 2) pe_int (fun _ _ => rfl)) pe_str (nomark _)) (pw_or (pt_cmpR op_ne (pe_callB call_len (by rfl) gl PySem.boot_len (pa_cons (pv 2) pa_nil)) pe_int (nomark _)) (pw_or (pt_cmpR op_isN (pv 3) pe_non (nomark _)) (pw_or1 (pt_cmpR op_isN (pv 4) pe_non (nomark _))))))) (pss_one (ps_ret pe_bl)) pss_nil)
        (pss_one (ps_ret (pe_and (pe_cmp (pc_din hu (pe_ix ix_tup (pv 2) pe_int (fun _ _ => rfl)) (pv 3)) (by rfl)) (pe_and (pe_cmp (pc_din hu (pe_ix ix_tup (pv 2) pe_int (fun _ _ => rfl)) (pv 4)) (by rfl)) (pe_one (pe_cmpR op_ne (pe_dget hu (pv 3) (pe_ix ix_tup (pv 2) pe_int (fun _ _ => rfl)) (fun _ _ => rfl)) (pe_dget hu (pv 4) (pe_ix ix_tup (pv 2) pe_int (fun _ _ => rfl)) (fun _ _ => rfl)) (nomark _))))))))))))), ?_⟩
  have tupT : ∀ {p : Addr} {xs : List V}, SqT K H p xs → TyX K H (.ref p) (.type "tuple") := fun q => ty_tupU q
  have vO : ∀ {ds : List Ch} (q : HistOk cs ds) {n : Str} {c : Col}, (atC cs ds).1.find? (isN n) = some c → isVal c.dflt = true := fun q n c hc => in_isV ((good_all q).ok c (List.mem_of_find?_eq_some hc)).1.df
  cases tb with
  | @col p n hp =>
    refine ⟨_, rfl, .ref p, .ty "tuple", _, _, true, rfl, .ty "tuple", tupT hp, kit_ty (by decide +kernel), _, rfl, iteF ⟨_, rfl, _, 2, rfl, .inr ⟨_, hp, rfl⟩, _, _, rfl, rfl, _, rfl, iteD (by decide) (nxt ?_)⟩⟩
    refine ⟨_, rfl, p, _, 0, _, rfl, rfl, hp, atI_nat (j := 0) rfl, rfl, _, rfl, iteDT rfl ?_⟩
    refine ⟨_, rfl, _, 2, rfl, .inr ⟨_, hp, rfl⟩, rfl, _, rfl, iteDT rfl ?_⟩
    refine ⟨_, rfl, h, cs, chs, ws, rfl, hh, o, fun d1 k1 H1 s1 hd1 A1 => ⟨d1, rfl, .inl ⟨_, .inl hd1⟩, _, rfl, p, _, 1, _, rfl, rfl, same_tup s1 hp, atI_nat (j := 1) rfl, _, DGet.k (k := Sum.inr n) hd1, ?_⟩⟩
    refine ⟨_, rfl, m, cs, dhs, us, rfl, hm.keep s1, o2, fun d2 k2 H2 s2 hd2 A2 => ⟨d2, rfl, .inl ⟨_, .inl hd2⟩, _, rfl, p, _, 1, _, rfl, rfl, same_tup (s1.trans s2) hp, atI_nat (j := 1) rfl, _, DGet.k (k := Sum.inr n) hd2, ?_⟩⟩
    have A1 := A1.keep s2
    have kk := k H2 (s1.trans s2)
    unfold colUnl at kk
    rw [cols_all, cols_all] at kk
    dsimp only at kk
    rcases A1.get (n := n) with ⟨f1, g1⟩ | ⟨c1, u1, f1, g1, q1⟩
    · rw [g1]
      rw [f1] at kk
      rcases A2.get (n := n) with ⟨f2, g2⟩ | ⟨c2, u2, f2, g2, q2⟩
      · rw [g2]
        rw [f2] at kk
        exact ⟨.none, .none, .non, .non, rfl, rfl, kk⟩
      · rw [g2]
        rw [f2] at kk
        exact ⟨.none, .tuple [.int c2.top, dtV c2.dflt], .non, .tup q2 (.cons (.int _) (.cons (dp_ok (val_okV (vO o2 f2))) .nil)), rfl, head_shaped (vO o2 f2), kk⟩
    · rw [g1]
      rw [f1] at kk
      rcases A2.get (n := n) with ⟨f2, g2⟩ | ⟨c2, u2, f2, g2, q2⟩
      · rw [g2]
        rw [f2] at kk
        exact ⟨.tuple [.int c1.top, dtV c1.dflt], .none, .tup q1 (.cons (.int _) (.cons (dp_ok (val_okV (vO o f1))) .nil)), .non, head_shaped (vO o f1), rfl, kk⟩
      · rw [g2]
        rw [f2] at kk
        refine ⟨.tuple [.int c1.top, dtV c1.dflt], .tuple [.int c2.top, dtV c2.dflt], .tup q1 (.cons (.int _) (.cons (dp_ok (val_okV (vO o f1))) .nil)), .tup q2 (.cons (.int _) (.cons (dp_ok (val_okV (vO o2 f2))) .nil)), head_shaped (vO o f1), head_shaped (vO o2 f2), ?_⟩
        rw [head_eqv (vO o f1) (vO o2 f2), Bool.not_not]
        exact kk
  | @row p r es hp hs hf =>
    have hokr : ∀ {ess : List (List (Int × V))}, (∀ es, es ∈ ess ↔ FitE (colsE cs chs 0) es) → ∀ es ∈ ess, ∀ p ∈ es, okV p.2 = true := fun q es z => fit_ok ((q es).mp z)
    refine ⟨_, rfl, .ref p, .ty "tuple", _, _, true, rfl, .ty "tuple", tupT hp, kit_ty (by decide +kernel), _, rfl, iteF ⟨_, rfl, _, _, rfl, .inr ⟨_, hp, rfl⟩, _, _, rfl, rfl, _, rfl, iteD (by simp only [List.length_cons, List.length_nil]; decide) (nxt ?_)⟩⟩
    refine ⟨_, rfl, p, _, 0, _, rfl, rfl, hp, atI_nat (j := 0) rfl, rfl, _, rfl, iteD (nes (by decide +kernel)) (nxt ?_)⟩
    refine ⟨_, rfl, p, _, 1, _, rfl, rfl, hp, atI_nat (j := 1) rfl, _, rfl, h, cs, chs, ws, 0, rfl, hh, o, up, Nat.zero_le _, fun l rs ess H1 nl s1 hl R1 mem len => ?_⟩
    refine ⟨dtRow 0 es, dtRows 0 ess, dp_row (hs.keep s1) (fit_ok hf), .lst (sqL_of hl) (rows_in R1 (hokr mem)), row_shaped (fit_ok hf), rows_shaped (hokr mem), _, rfl, ?_⟩
    have hany : ((dtRows 0 ess).any fun z => PyData.eqv z (dtRow 0 es)) = true := List.any_eq_true.mpr ⟨dtRow 0 es, List.mem_map.mpr ⟨es, (mem es).mpr hf, rfl⟩, row_eqv (fit_ok hf)⟩
    rw [hany]
    refine iteF (nxt ?_)
    dsimp only
    refine s_seq (fun σ' H' => ∃ v u, σ' = [some (.ref h), some (.ref m), some (.ref p), some v, some u] ∧ Same H H' ∧ FolV H' v (endE cs chs 0 es) ∧ FolV H' u (endE cs dhs 0 es)) ?_ fun kk => ?_
    rotate_left
    · obtain ⟨sh, ca, wd, es', ts, g1, g2, g3, g4, g5, g6⟩ := id hh
      obtain ⟨sh2, ca2, wd2, es2, ts2, j1, j2, j3, j4, j5, j6⟩ := id hm
      have hl1 := g5.len
      have hl2 := j5.len
      refine pl_parV ?_
      refine ⟨_, rfl, _, rfl, p, _, 1, _, rfl, rfl, same_tup s1 hp, atI_nat (j := 1) rfl, _, rfl, h, _, rfl, bh_changes (s1 _ _ g1), _, ts.length, rfl, .inl ⟨_, sqL_of (s1 _ _ g4), by rw [List.length_map]⟩, ?_⟩
      rw [hl1]
      refine ⟨h, r, cs, chs, ws, 0, chs.length, es, rfl, hh.keep s1, o, Nat.zero_le _, Nat.le_refl _, hs.keep s1, hf, fun H2 s2 e2 => ?_, fun d kvs H2 s2 hd e2 => ?_⟩
      · refine ⟨_, rfl, _, rfl, p, _, 1, _, rfl, rfl, same_tup (s1.trans s2) hp, atI_nat (j := 1) rfl, _, rfl, m, _, rfl, bh_changes ((s1.trans s2) _ _ j1), _, ts2.length, rfl, .inl ⟨_, sqL_of ((s1.trans s2) _ _ j4), by rw [List.length_map]⟩, ?_⟩
        rw [hl2]
        refine ⟨m, r, cs, dhs, us, 0, dhs.length, es, rfl, hm.keep (s1.trans s2), o2, Nat.zero_le _, Nat.le_refl _, hs.keep (s1.trans s2), hf, fun H3 s3 e3 => ?_, fun d3 k3 H3 s3 hd3 e3 => ?_⟩
        · exact ⟨_, _, rfl, kk _ _ ⟨_, _, rfl, (s1.trans s2).trans s3, .inl ⟨rfl, e2⟩, .inl ⟨rfl, e3⟩⟩⟩
        · exact ⟨_, _, rfl, kk _ _ ⟨_, _, rfl, (s1.trans s2).trans s3, .inl ⟨rfl, e2⟩, .inr ⟨d3, k3, rfl, hd3, e3⟩⟩⟩
      · refine ⟨_, rfl, _, rfl, p, _, 1, _, rfl, rfl, same_tup (s1.trans s2) hp, atI_nat (j := 1) rfl, _, rfl, m, _, rfl, bh_changes ((s1.trans s2) _ _ j1), _, ts2.length, rfl, .inl ⟨_, sqL_of ((s1.trans s2) _ _ j4), by rw [List.length_map]⟩, ?_⟩
        rw [hl2]
        refine ⟨m, r, cs, dhs, us, 0, dhs.length, es, rfl, hm.keep (s1.trans s2), o2, Nat.zero_le _, Nat.le_refl _, hs.keep (s1.trans s2), hf, fun H3 s3 e3 => ?_, fun d3 k3 H3 s3 hd3 e3 => ?_⟩
        · exact ⟨_, _, rfl, kk _ _ ⟨_, _, rfl, (s1.trans s2).trans s3, .inr ⟨d, kvs, rfl, s3 _ _ hd, e2⟩, .inl ⟨rfl, e3⟩⟩⟩
        · exact ⟨_, _, rfl, kk _ _ ⟨_, _, rfl, (s1.trans s2).trans s3, .inr ⟨d, kvs, rfl, s3 _ _ hd, e2⟩, .inr ⟨d3, k3, rfl, hd3, e3⟩⟩⟩
    · rintro σ' H' ⟨v, u, rfl, s', f1, f2⟩
      have hp' := same_tup s' hp
      refine ⟨_, rfl, p, _, 0, _, rfl, rfl, hp', atI_nat (j := 0) rfl, rfl, _, rfl, iteDT rfl ?_⟩
      refine ⟨_, rfl, _, 2, rfl, .inr ⟨_, hp', rfl⟩, rfl, _, rfl, iteDT rfl ⟨_, rfl, rfl, _, rfl, rfl, rfl, ?_⟩⟩
      rw [f1.isN, f2.isN]
      have e3 : ∀ a c : Bool, (!decide (V.bl a = V.bl c)) = (a != c) := by decide
      rw [e3]
      exact k H' s'
  | @read p r n es hp hs hf =>
    have hokr : ∀ {ess : List (List (Int × V))}, (∀ es, es ∈ ess ↔ FitE (colsE cs chs 0) es) → ∀ es ∈ ess, ∀ p ∈ es, okV p.2 = true := fun q es z => fit_ok ((q es).mp z)
    refine ⟨_, rfl, .ref p, .ty "tuple", _, _, true, rfl, .ty "tuple", tupT hp, kit_ty (by decide +kernel), _, rfl, iteF ⟨_, rfl, _, _, rfl, .inr ⟨_, hp, rfl⟩, _, _, rfl, rfl, _, rfl, iteD (by simp only [List.length_cons, List.length_nil]; decide) (nxt ?_)⟩⟩
    refine ⟨_, rfl, p, _, 0, _, rfl, rfl, hp, atI_nat (j := 0) rfl, rfl, _, rfl, iteD (nes (by decide +kernel)) (nxt ?_)⟩
    refine ⟨_, rfl, p, _, 1, _, rfl, rfl, hp, atI_nat (j := 1) rfl, _, rfl, h, cs, chs, ws, 0, rfl, hh, o, up, Nat.zero_le _, fun l rs ess H1 nl s1 hl R1 mem len => ?_⟩
    refine ⟨dtRow 0 es, dtRows 0 ess, dp_row (hs.keep s1) (fit_ok hf), .lst (sqL_of hl) (rows_in R1 (hokr mem)), row_shaped (fit_ok hf), rows_shaped (hokr mem), _, rfl, ?_⟩
    have hany : ((dtRows 0 ess).any fun z => PyData.eqv z (dtRow 0 es)) = true := List.any_eq_true.mpr ⟨dtRow 0 es, List.mem_map.mpr ⟨es, (mem es).mpr hf, rfl⟩, row_eqv (fit_ok hf)⟩
    rw [hany]
    refine iteF (nxt ?_)
    dsimp only
    refine s_seq (fun σ' H' => ∃ v u, σ' = [some (.ref h), some (.ref m), some (.ref p), some v, some u] ∧ Same H H' ∧ FolV H' v (endE cs chs 0 es) ∧ FolV H' u (endE cs dhs 0 es)) ?_ fun kk => ?_
    rotate_left
    · obtain ⟨sh, ca, wd, es', ts, g1, g2, g3, g4, g5, g6⟩ := id hh
      obtain ⟨sh2, ca2, wd2, es2, ts2, j1, j2, j3, j4, j5, j6⟩ := id hm
      have hl1 := g5.len
      have hl2 := j5.len
      refine pl_parV ?_
      refine ⟨_, rfl, _, rfl, p, _, 1, _, rfl, rfl, same_tup s1 hp, atI_nat (j := 1) rfl, _, rfl, h, _, rfl, bh_changes (s1 _ _ g1), _, ts.length, rfl, .inl ⟨_, sqL_of (s1 _ _ g4), by rw [List.length_map]⟩, ?_⟩
      rw [hl1]
      refine ⟨h, r, cs, chs, ws, 0, chs.length, es, rfl, hh.keep s1, o, Nat.zero_le _, Nat.le_refl _, hs.keep s1, hf, fun H2 s2 e2 => ?_, fun d kvs H2 s2 hd e2 => ?_⟩
      · refine ⟨_, rfl, _, rfl, p, _, 1, _, rfl, rfl, same_tup (s1.trans s2) hp, atI_nat (j := 1) rfl, _, rfl, m, _, rfl, bh_changes ((s1.trans s2) _ _ j1), _, ts2.length, rfl, .inl ⟨_, sqL_of ((s1.trans s2) _ _ j4), by rw [List.length_map]⟩, ?_⟩
        rw [hl2]
        refine ⟨m, r, cs, dhs, us, 0, dhs.length, es, rfl, hm.keep (s1.trans s2), o2, Nat.zero_le _, Nat.le_refl _, hs.keep (s1.trans s2), hf, fun H3 s3 e3 => ?_, fun d3 k3 H3 s3 hd3 e3 => ?_⟩
        · exact ⟨_, _, rfl, kk _ _ ⟨_, _, rfl, (s1.trans s2).trans s3, .inl ⟨rfl, e2⟩, .inl ⟨rfl, e3⟩⟩⟩
        · exact ⟨_, _, rfl, kk _ _ ⟨_, _, rfl, (s1.trans s2).trans s3, .inl ⟨rfl, e2⟩, .inr ⟨d3, k3, rfl, hd3, e3⟩⟩⟩
      · refine ⟨_, rfl, _, rfl, p, _, 1, _, rfl, rfl, same_tup (s1.trans s2) hp, atI_nat (j := 1) rfl, _, rfl, m, _, rfl, bh_changes ((s1.trans s2) _ _ j1), _, ts2.length, rfl, .inl ⟨_, sqL_of ((s1.trans s2) _ _ j4), by rw [List.length_map]⟩, ?_⟩
        rw [hl2]
        refine ⟨m, r, cs, dhs, us, 0, dhs.length, es, rfl, hm.keep (s1.trans s2), o2, Nat.zero_le _, Nat.le_refl _, hs.keep (s1.trans s2), hf, fun H3 s3 e3 => ?_, fun d3 k3 H3 s3 hd3 e3 => ?_⟩
        · exact ⟨_, _, rfl, kk _ _ ⟨_, _, rfl, (s1.trans s2).trans s3, .inr ⟨d, kvs, rfl, s3 _ _ hd, e2⟩, .inl ⟨rfl, e3⟩⟩⟩
        · exact ⟨_, _, rfl, kk _ _ ⟨_, _, rfl, (s1.trans s2).trans s3, .inr ⟨d, kvs, rfl, s3 _ _ hd, e2⟩, .inr ⟨d3, k3, rfl, hd3, e3⟩⟩⟩
    · rintro σ' H' ⟨v, u, rfl, s', f1, f2⟩
      have hp' := same_tup s' hp
      have kk := k H' s'
      refine ⟨_, rfl, p, _, 0, _, rfl, rfl, hp', atI_nat (j := 0) rfl, rfl, _, rfl, iteD (nes (by decide +kernel)) (nxt ?_)⟩
      refine ⟨_, rfl, p, _, 0, _, rfl, rfl, hp', atI_nat (j := 0) rfl, rfl, _, rfl, iteNS rfl ⟨_, rfl, _, 3, rfl, .inr ⟨_, hp', rfl⟩, rfl, _, rfl, iteNS rfl ⟨_, rfl, rfl, _, rfl, ?_⟩⟩⟩
      rcases f1 with ⟨rfl, e1⟩ | ⟨d1, k1, rfl, hd1, e1⟩
      · rw [e1] at kk
        exact iteDT rfl kk
      refine iteD (fun z => by cases z) ⟨_, rfl, rfl, _, rfl, ?_⟩
      rcases f2 with ⟨rfl, e2⟩ | ⟨d2, k2, rfl, hd2, e2⟩
      · rw [e1, e2] at kk
        exact iteDT rfl kk
      rw [e1, e2] at kk
      refine iteD (fun z => by cases z) (nxt ?_)
      obtain ⟨cl1, q1⟩ := end_row o (Nat.zero_le _) hf e1
      obtain ⟨cl2, q2⟩ := end_row o2 (Nat.zero_le _) hf e2
      have g1 : DGet H' d1 (.str n) (valV k1 (Sum.inr n)) := DGet.k (k := Sum.inr n) hd1
      have g2 : DGet H' d2 (.str n) (valV k2 (Sum.inr n)) := DGet.k (k := Sum.inr n) hd2
      have kk : Q (.bl (match valV k1 (.inr n), valV k2 (.inr n) with
        | some u, some v => !decide (u = v)
        | _, _ => false)) H' := kk
      refine ⟨_, rfl, p, _, 2, _, rfl, rfl, hp', atI_nat (j := 2) rfl, _, rfl, d1, _, rfl, g1, _, rfl, ?_⟩
      cases v1 : valV k1 (Sum.inr n) with
      | none =>
        rw [v1] at kk
        exact iteF kk
      | some u =>
        rw [v1] at kk g1
        refine iteT ⟨_, rfl, p, _, 2, _, rfl, rfl, hp', atI_nat (j := 2) rfl, _, rfl, d2, _, rfl, g2, _, rfl, ?_⟩
        cases v2 : valV k2 (Sum.inr n) with
        | none =>
          rw [v2] at kk
          exact iteF kk
        | some v =>
          rw [v2] at kk g2
          exact iteT ⟨_, rfl, _, rfl, p, _, 2, _, rfl, rfl, hp', atI_nat (j := 2) rfl, d1, u, rfl, g1, _, rfl, _, rfl, p, _, 2, _, rfl, rfl, hp', atI_nat (j := 2) rfl, d2, v, rfl, g2, vscal2 (row_val q1 v1) (row_val q2 v2), kk⟩
/-! a history up to one of its editions -/
theorem Chs.take {K : PySem.W.Frag} {H : Hp} : ∀ {as : List Addr} {cs : List Ch} (m : Nat), Chs K H as cs → Chs K H (as.take m) (cs.take m)
  | _, _, 0, _ => .nil
  | _, _, _ + 1, .nil => .nil
  | _, _, m + 1, .cons q t => .cons q (t.take m)
theorem HistOk.take {cs : List Col} {chs : List Ch} (o : HistOk cs chs) {m : Nat} (h : m ≤ chs.length) : HistOk cs (chs.take m) := by
  refine ⟨o.pl, o.g, fun i ch hi => ?_, ?_⟩
  · rw [List.getElem?_take] at hi
    split at hi
    · rename_i q
      have := o.f i ch hi
      rw [List.take_take, Nat.min_eq_left (by omega)]
      exact this
    · cases hi
  · rw [List.length_take]
    have := o.few
    omega
theorem UpTo.take {top : Int} {cs : List Col} {chs : List Ch} (u : UpTo top cs chs) (m : Nat) : UpTo top cs (chs.take m) := ⟨u.1, fun ch hc => u.2 ch (List.mem_of_mem_take hc)⟩

/-! new objects in a list, by their addresses; the last of a list -/
theorem refs_of {R : Nat → Addr → Prop} : ∀ {ys : List V} (k : Nat), (∀ i y, ys[i]? = some y → ∃ t, y = .ref t ∧ R (k + i) t) → ∃ ts : List Addr, ys = ts.map V.ref ∧ ∀ i t, ts[i]? = some t → R (k + i) t
  | [], _, _ => ⟨[], rfl, fun i t h => by simp at h⟩
  | y :: ys, k, h => by
    obtain ⟨t, e, r⟩ := h 0 y rfl
    obtain ⟨ts, e2, r2⟩ := refs_of (ys := ys) (R := R) (k + 1) fun i z hz => by
      obtain ⟨t', q1, q2⟩ := h (i + 1) z (by simpa using hz)
      exact ⟨t', q1, by rw [show k + 1 + i = k + (i + 1) by omega]; exact q2⟩
    refine ⟨t :: ts, by rw [e, e2]; rfl, fun i u hu => ?_⟩
    match i, hu with
    | 0, hu =>
      obtain rfl := Option.some.inj hu
      exact r
    | i + 1, hu =>
      have := r2 i u (by simpa using hu)
      rw [show k + 1 + i = k + (i + 1) by omega] at this
      exact this
theorem refs_of0 {R : Nat → Addr → Prop} {ys : List V} (h : ∀ i y, ys[i]? = some y → ∃ t, y = .ref t ∧ R i t) : ∃ ts : List Addr, ys = ts.map V.ref ∧ ∀ i t, ts[i]? = some t → R i t := by
  obtain ⟨ts, e, r⟩ := refs_of (R := R) (ys := ys) 0 fun i y hy => by rw [Nat.zero_add]; exact h i y hy
  exact ⟨ts, e, fun i t ht => by have := r i t ht; rwa [Nat.zero_add] at this⟩
theorem lref_last {as : List Addr} {n : Nat} {a : Addr} (hl : as.length = n + 1) (h : as[n]? = some a) : atI (as.map V.ref) (-1) = some (.ref a) := by
  unfold atI ixN
  rw [if_neg (by omega), if_pos (by rw [List.length_map]; omega), List.length_map, show ((-1 : Int) + (as.length : Nat)).toNat = n by omega]
  show (as.map V.ref)[n]? = _
  rw [List.getElem?_map, h]
  rfl
theorem q_asg1 {te : TE} {i : Nat} {D : Ends} {σ : L2.St} {H : Hp} (h : te σ H fun x H1 => D.nx (σ.set i (some x)) H1) : tAsg te (gName i) D σ H := h

/-! _law_near: a history near another one, by a law -/
theorem chs_cut {K : PySem.W.Frag} {H : Hp} : ∀ {ts : List Addr} {ds : List Ch} (_ : Chs K H ts ds) (a b : Option Int), ∃ ts' ds', cutV (ts.map V.ref) a b = ts'.map V.ref ∧ Chs K H ts' ds' ∧ (∀ c ∈ ds', c ∈ ds) ∧ ds'.length ≤ ds.length := by
  intro ts ds h a b
  refine ⟨(ts.drop (HT.sIx (ts.map V.ref).length 0 a)).take (HT.sIx (ts.map V.ref).length (ts.map V.ref).length b - HT.sIx (ts.map V.ref).length 0 a), (ds.drop (HT.sIx (ts.map V.ref).length 0 a)).take (HT.sIx (ts.map V.ref).length (ts.map V.ref).length b - HT.sIx (ts.map V.ref).length 0 a), ?_, (h.drop _).take _, fun c hc => List.mem_of_mem_drop (List.mem_of_mem_take hc), ?_⟩
  · unfold cutV
    rw [List.map_take, List.map_drop]
  · rw [List.length_take, List.length_drop]
    omega
theorem chs_fit {cs : List Col} {chs : List Ch} (f : Fits cs chs) : ∀ c ∈ chs, c.fits = true := fun c hc => by
  obtain ⟨i, hi⟩ := List.mem_iff_getElem?.mp hc
  exact (f i c hi).1
def sp_near (K : PySem.W.Frag) : Sp := fun vs H Q _ => ∃ (p h : Addr) (cs : List Col) (chs : List Ch) (ws : List Str) (z0 z1 : Int), vs = [.ref p, .ref h] ∧ H p = some (.lst [.int z0, .int z1]) ∧ BhAt K H h cs chs ws ∧ WordsOk ws ∧ HistOk cs chs ∧ chs.length ≤ 8 ∧
  ∀ (m : Addr) (dhs : List Ch) (us : List Str) (y0 y1 : Int) (H' : Hp), But p H H' → H' p = some (.lst [.int y0, .int y1]) → BhAt K H' m cs dhs us → HistOk cs dhs → Q (.ref m) H'
theorem ok_near (T : Tx K mg) : Callee P w K mg base CX0 7 "_law_near" ["_law_pool_here", "_law_h"] [] (sp_near K) := by
  have Cp := ok_piece (P := P) (w := w) (base := base) T
  have Cl := (ok_longer (P := P) (w := w) (base := base) T).up (show 5 ≤ 6 by decide)
  have Cc := (ok_changeL (P := P) (w := w) (base := base) T).up (show 3 ≤ 6 by decide)
  have Cd := (ok_draw (P := P) (w := w) (base := base) T).up (show 1 ≤ 6 by decide)
  have Ck := (ok_pick (P := P) (w := w) (base := base) T).up (show 2 ≤ 6 by decide)
  refine mkCallee (fd__law_near T) (mg__law_near T) sc__law_near (fun _ _ _ _ _ _ us hl => match us, hl with | [_, _], _ => rfl) (fun vs H Q E h => ?_) (fun cdv A outer s H vs Q E hr h => ?_)
  · obtain ⟨p, h, cs, chs, ws, z0, z1, rfl, _⟩ := h
    rfl
  obtain ⟨p, h, cs, chs, ws, z0, z1, rfl, hp, hh, W, o, few, k⟩ := h
  have nd := sc__law_near.nd
  have hu := hu_of hr
  have h64 := hr64 hr
  have hsl : sizeLine = 16777216 := by decide
  refine ⟨_, (pss_cons (ps_par (i := 2) (j := 3) rfl nd rfl rfl (by decide) rfl rfl (pa_cons (pe_ix ix_list (pe_dget hu (pv 1) pe_str (fun _ _ => rfl)) pe_int (fun _ _ => rfl)) (pa_cons (pe_callTy call_list_of (by rfl) (fr_list T) (by decide +kernel) (pa_cons (pe_dget hu (pv 1) pe_str (fun _ _ => rfl)) pa_nil)) pa_nil)) (by rfl))
        (pss_cons (ps_set (i := 4) nd rfl (Or.inl rfl) (pcall Cd hr (pa_cons (pv 0) (pa_cons pe_int pa_nil))))
        (pss_cons (ps_if (PW.pt (pw_and (pt_cmpR op_eq (pv 4) pe_int (nomark _)) (pw_and1 (pt_cmpR (op_neE h64) (pv 3) (pe_lst pa_nil) (nomark _))))) (pss_cons (ps_set (i := 5) nd rfl (Or.inl rfl) (pcall Cd hr (pa_cons (pv 0) (pa_cons (pe_callB call_len (by rfl) (fr_len T) PySem.boot_len (pa_cons (pv 3) pa_nil)) pa_nil))))
        (pss_one (ps_set (i := 3) nd rfl (Or.inl rfl) (pe_op op_cat (pe_slice sl_list (pv 3) po_none (po_some (pv 5))) (pe_slice sl_list (pv 3) (po_some (pe_op op_add (pv 5) pe_int)) po_none))))) pss_nil)
        (pss_cons (ps_if (PW.pt (pw_and (pt_cmpR op_eq (pv 4) pe_int (nomark _)) (pw_and1 (pt_cmpR op_gt (pe_callB call_len (by rfl) (fr_len T) PySem.boot_len (pa_cons (pv 3) pa_nil)) pe_int (nomark _))))) (pss_cons (ps_set (i := 5) nd rfl (Or.inl rfl) (pcall Cd hr (pa_cons (pv 0) (pa_cons (pe_op op_sub (pe_callB call_len (by rfl) (fr_len T) PySem.boot_len (pa_cons (pv 3) pa_nil)) pe_int) pa_nil))))
        (pss_one (ps_set (i := 3) nd rfl (Or.inl rfl) (pe_op op_cat (pe_op op_cat (pe_slice sl_list (pv 3) po_none (po_some (pv 5))) (pe_lst (pa_cons (pe_ix ix_list (pv 3) (pe_op op_add (pv 5) pe_int) (fun _ _ => rfl)) (pa_cons (pe_ix ix_list (pv 3) (pv 5) (fun _ _ => rfl)) pa_nil)))) (pe_slice sl_list (pv 3) (po_some (pe_op op_add (pv 5) pe_int)) po_none))))) pss_nil)
        (pss_cons (ps_set (i := 6) nd rfl (Or.inl rfl) (pcall Cp hr (pa_cons (pv 2) (pa_cons (pv 3) pa_nil))))
        (pss_cons (ps_set (i := 6) nd rfl (Or.inl rfl) (pe_ifExp (pt_cmpR op_isN (pv 6) pe_non (nomark _)) (pcall Cp hr (pa_cons (pv 2) (pa_cons (pe_lst pa_nil) pa_nil))) (pv 6)))
        (pss_cons (ps_if (pt_cmpR op_eq (pv 4) pe_int (nomark _)) (pss_one (ps_set (i := 6) nd rfl (Or.inl rfl) (pcall Cl hr (pa_cons (pv 6) (pa_cons (pcall Cc hr (pa_cons (pv 0) (pa_cons (pe_ix ix_list (pe_dget hu (pv 6) pe_str (fun _ _ => rfl)) (pe_un un_neg pe_int) (fun _ _ => rfl)) (pa_cons (pe_dget hu (pv 1) pe_str (fun _ _ => rfl)) (pa_cons pe_int pa_nil))))) pa_nil))))) pss_nil)
        (pss_cons (ps_if (pt_cmpR op_eq (pv 4) pe_int (nomark _)) (pss_cons (ps_set (i := 7) nd rfl (Or.inl rfl) (pcall Ck hr (pa_cons (pv 0) (pa_cons (pe_ix ix_list (pe_dget hu (pv 6) pe_str (fun _ _ => rfl)) (pe_un un_neg pe_int) (fun _ _ => rfl)) pa_nil))))
        (pss_cons (ps_set (i := 8) nd rfl (Or.inl rfl) (pe_lst (pa_cons (pe_tup (pa_cons pe_str (pa_cons (pe_dget hu (pv 7) pe_str (fun _ _ => rfl)) (pa_cons (pe_dget hu (pv 7) pe_str (fun _ _ => rfl)) pa_nil)))) (pa_cons (pe_tup (pa_cons pe_str (pa_cons (pe_dget hu (pv 7) pe_str (fun _ _ => rfl)) (pa_cons (pe_dget hu (pv 7) pe_str (fun _ _ => rfl)) (pa_cons pe_str pa_nil))))) pa_nil))))
        (pss_one (ps_set (i := 6) nd rfl (Or.inl rfl) (pcall Cl hr (pa_cons (pv 6) (pa_cons (pcall Ck hr (pa_cons (pv 0) (pa_cons (pv 8) pa_nil))) pa_nil))))))) pss_nil)
        (pss_one (ps_ret (pv 6))))))))))), ?_⟩
  obtain ⟨sh, es, e0, as0, e1, e2, e3, e4, e5, e6⟩ := hh.sheet (m := 0) (Nat.zero_le _)
  have e6 : BCols H as0 cs := e6
  obtain ⟨sh', ca, wdo, es', ts, g1, g2, g3, g4, g5, g60⟩ := id hh
  obtain ⟨wd, rfl, g6⟩ := g60.there (fun z => by
    have := W.len
    rw [z] at this
    cases this)
  have six := o.g.six
  have al := e6.len
  have hfit := chs_fit o.f
  have htl := g5.len
  refine pl_parV ?_
  refine ⟨_, rfl, h, _, rfl, e1, sh, _, 0, _, rfl, rfl, sqL_of e2, atI_nat (j := 0) (by rw [List.getElem?_map, e4]; rfl), _, rfl, h, _, rfl, bh_changes g1, ca, _, rfl, .inl (sqL_of g4), fun l nl => ⟨_, _, rfl, ?_⟩⟩
  have b1 : But p H (upd H l (.lst (ts.map V.ref))) := But.of (same_new nl)
  have hp1 : upd H l (.lst (ts.map V.ref)) p = some (.lst [.int z0, .int z1]) := same_new nl _ _ hp
  have hl1 : upd H l (.lst (ts.map V.ref)) l = some (.lst (ts.map V.ref)) := upd_same
  have hd1 : Chs K (upd H l (.lst (ts.map V.ref))) ts chs := g5.keep (same_new nl)
  generalize upd H l (.lst (ts.map V.ref)) = H1 at b1 hp1 hl1 hd1 ⊢
  dsimp only
  refine q_asgX ⟨_, rfl, p, z0, z1, 4, rfl, hp1, by decide, by decide, fun way u0 u1 r0 r1 => ?_⟩
  dsimp only
  -- the changes, one of them left out or two of them turned about
  let P3 : Nat → L2.St → Hp → Prop := fun n σ' G => ∃ (l : Addr) (ts : List Addr) (ds : List Ch) (y5 : Option V) (y0 y1 : Int), σ' = [some (.ref p), some (.ref h), some (.ref e0), some (.ref l), some (.int way), y5, none, none, none] ∧ But p H G ∧ G p = some (.lst [.int y0, .int y1]) ∧ G l = some (.lst (ts.map V.ref)) ∧ Chs K G ts ds ∧ (∀ c ∈ ds, c.fits = true) ∧ ds.length ≤ n
  have kn : ∀ {G G' : Hp} {y0 y1 : Int}, G p = some (.lst [.int y0, .int y1]) → But p G G' → KeepNL G G' := fun a b => KeepNL.ofBut a b
  refine s_seq (P3 16) ?_ fun kk => ?_
  rotate_left
  · have b2 : But p H (upd H1 p (.lst [.int u0, .int u1])) := b1.trans But.mut
    have hp2 : upd H1 p (.lst [.int u0, .int u1]) p = some (.lst [.int u0, .int u1]) := upd_same
    have hl2 : upd H1 p (.lst [.int u0, .int u1]) l = some (.lst (ts.map V.ref)) := refsL_but hp1 But.mut hl1
    have hd2 := hd1.keepNL (kn hp1 But.mut) (H' := upd H1 p (.lst [.int u0, .int u1]))
    generalize upd H1 p (.lst [.int u0, .int u1]) = H2 at b2 hp2 hl2 hd2 ⊢
    refine ⟨_, rfl, rfl, _, rfl, ?_⟩
    by_cases hw : V.int way = V.int 0
    · refine iteDT hw ⟨_, rfl, by show 0 ≤ sizeLine; decide, fun z nz => ⟨l, z, ts.map V.ref, rfl, rfl, sqL_of (same_new nz _ _ hl2), sqL_of upd_same, _, rfl, ?_⟩⟩
      have b3 := b2.trans (But.of (same_new (o := .lst []) nz) : But p _ _)
      have hp3 := same_new (o := .lst []) nz _ _ hp2
      have hl3 := same_new (o := .lst []) nz _ _ hl2
      have hd3 := hd2.keep (same_new (o := .lst []) nz)
      generalize upd H2 z (.lst []) = H3 at b3 hp3 hl3 hd3 ⊢
      cases hts : (ts.map V.ref).isEmpty with
      | true => exact iteF (nxt (kk _ _ ⟨l, ts, chs, none, u0, u1, rfl, b3, hp3, hl3, hd3, hfit, by omega⟩))
      | false =>
        have hpos : 0 < ts.length := by
          cases ts with
          | nil => cases hts
          | cons _ _ => exact Nat.succ_pos _
        refine iteT ?_
        refine q_asgX ⟨_, rfl, _, rfl, _, ts.length, rfl, .inl ⟨_, sqL_of hl3, by rw [List.length_map]⟩, p, u0, u1, (ts.length : Nat), rfl, hp3, by omega, by omega, fun r v0 v1 q0 q1 => ?_⟩
        dsimp only
        have b4 : But p H (upd H3 p (.lst [.int v0, .int v1])) := b3.trans But.mut
        have hp4 : upd H3 p (.lst [.int v0, .int v1]) p = some (.lst [.int v0, .int v1]) := upd_same
        have hl4 : upd H3 p (.lst [.int v0, .int v1]) l = some (.lst (ts.map V.ref)) := refsL_but hp3 But.mut hl3
        have hd4 := hd3.keepNL (kn hp3 But.mut) (H' := upd H3 p (.lst [.int v0, .int v1]))
        generalize upd H3 p (.lst [.int v0, .int v1]) = H4 at b4 hp4 hl4 hd4 ⊢
        obtain ⟨ta, da, ea, ca', ma, la⟩ := chs_cut hd4 none (some r)
        obtain ⟨tb, db, eb, cb', mb, lb⟩ := chs_cut hd4 (some (r + 1)) none
        refine ⟨_, rfl, _, rfl, r, rfl, l, _, rfl, sqL_of hl4, fun x nx => ?_⟩
        refine ⟨_, rfl, _, rfl, _, _, rfl, rfl, _, rfl, l, _, rfl, sqL_of (same_new nx _ _ hl4), fun y ny => ?_⟩
        refine ⟨x, y, _, _, rfl, rfl, same_new ny _ _ upd_same, upd_same, ?_, fun v nv => ?_⟩
        · have := cutV_length (ts.map V.ref) none (some r)
          have := cutV_length (ts.map V.ref) (some (r + 1)) none
          rw [List.length_map] at *
          omega
        have sa := ((same_new (o := .lst (cutV (ts.map V.ref) none (some r))) nx).trans (same_new (o := .lst (cutV (ts.map V.ref) (some (r + 1)) none)) ny)).trans (same_new (o := .lst (cutV (ts.map V.ref) none (some r) ++ cutV (ts.map V.ref) (some (r + 1)) none)) nv)
        refine kk _ _ ⟨v, ta ++ tb, da ++ db, _, v0, v1, rfl, b4.trans (But.of sa), sa _ _ hp4, ?_, (ca'.keep sa).app (cb'.keep sa), fun c hc => (List.mem_append.mp hc).elim (fun q => hfit c (ma c q)) (fun q => hfit c (mb c q)), by rw [List.length_append]; omega⟩
        rw [upd_same, ea, eb, List.map_append]
    · exact iteD hw (nxt (kk _ _ ⟨l, ts, chs, none, u0, u1, rfl, b2, hp2, hl2, hd2, hfit, by omega⟩))
  rintro σ G ⟨l, ts, ds, y5, y0, y1, rfl, bG, hpG, hlG, hdG, hfG, lenG⟩
  clear hl1 hd1 hp1 b1
  try dsimp only
  refine s_seq (P3 34) ?_ fun kk => ?_
  rotate_left
  · have htG := hdG.len
    refine ⟨_, rfl, rfl, _, rfl, ?_⟩
    by_cases hw : V.int way = V.int 1
    · refine iteDT hw ⟨_, rfl, _, ts.length, rfl, .inl ⟨_, sqL_of hlG, by rw [List.length_map]⟩, _, _, rfl, rfl, _, rfl, ?_⟩
      by_cases hl1 : (ts.length : Int) > 1
      · refine iteDT hl1 ?_
        refine q_asgX ⟨_, rfl, _, rfl, _, ts.length, rfl, .inl ⟨_, sqL_of hlG, by rw [List.length_map]⟩, _, _, rfl, rfl, p, y0, y1, (ts.length : Int) - 1, rfl, hpG, by omega, by omega, fun r v0 v1 q0 q1 => ?_⟩
        dsimp only
        have b4 : But p H (upd G p (.lst [.int v0, .int v1])) := bG.trans But.mut
        have hp4 : upd G p (.lst [.int v0, .int v1]) p = some (.lst [.int v0, .int v1]) := upd_same
        have hl4 : upd G p (.lst [.int v0, .int v1]) l = some (.lst (ts.map V.ref)) := refsL_but hpG But.mut hlG
        have hd4 := hdG.keepNL (kn hpG But.mut) (H' := upd G p (.lst [.int v0, .int v1]))
        generalize upd G p (.lst [.int v0, .int v1]) = H4 at b4 hp4 hl4 hd4 ⊢
        obtain ⟨ta, da, ea, ca', ma, la⟩ := chs_cut hd4 none (some r)
        obtain ⟨tb, db, eb, cb', mb, lb⟩ := chs_cut hd4 (some (r + 2)) none
        have i1 : (r + 1).toNat < ts.length := by omega
        have i0 : r.toNat < ts.length := by omega
        have x1 : ts[(r + 1).toNat]? = some ts[(r + 1).toNat] := List.getElem?_eq_getElem i1
        have x0 : ts[r.toNat]? = some ts[r.toNat] := List.getElem?_eq_getElem i0
        obtain ⟨c1, m1, k1⟩ := hd4.at_ x1
        obtain ⟨c0, m0, k0⟩ := hd4.at_ x0
        generalize ts[(r + 1).toNat] = t1 at x1 k1
        generalize ts[r.toNat] = t0 at x0 k0
        have a1 : atI (ts.map V.ref) (r + 1) = some (.ref t1) := by
          have := atI_nat (xs := ts.map V.ref) (j := (r + 1).toNat) (v := .ref t1) (by rw [List.getElem?_map, x1]; rfl)
          rwa [Int.toNat_of_nonneg (by omega)] at this
        have a0 : atI (ts.map V.ref) r = some (.ref t0) := by
          have := atI_nat (xs := ts.map V.ref) (j := r.toNat) (v := .ref t0) (by rw [List.getElem?_map, x0]; rfl)
          rwa [Int.toNat_of_nonneg (by omega)] at this
        have lc1 := cutV_length (ts.map V.ref) none (some r)
        have lc2 := cutV_length (ts.map V.ref) (some (r + 2)) none
        rw [List.length_map] at lc1 lc2
        refine ⟨_, rfl, _, rfl, r, rfl, l, _, rfl, sqL_of hl4, fun x nx => ?_⟩
        have h1 := same_new (o := .lst (cutV (ts.map V.ref) none (some r))) nx
        refine ⟨_, rfl, _, rfl, _, _, rfl, rfl, l, _, _, _, rfl, rfl, sqL_of (h1 _ _ hl4), a1, _, rfl, _, rfl, l, _, _, _, rfl, rfl, sqL_of (h1 _ _ hl4), a0, by show 2 ≤ sizeLine; decide, fun y ny => ?_⟩
        refine ⟨x, y, _, _, rfl, rfl, same_new ny _ _ upd_same, upd_same, by show (cutV (ts.map V.ref) none (some r)).length + 2 ≤ _; omega, fun v nv => ?_⟩
        have sa := (h1.trans (same_new (o := .lst [V.ref t1, .ref t0]) ny)).trans (same_new (o := .lst (cutV (ts.map V.ref) none (some r) ++ [V.ref t1, .ref t0])) nv)
        have hv : upd (upd (upd H4 x (.lst (cutV (ts.map V.ref) none (some r)))) y (.lst [V.ref t1, .ref t0])) v (.lst (cutV (ts.map V.ref) none (some r) ++ [V.ref t1, .ref t0])) v = some (.lst (cutV (ts.map V.ref) none (some r) ++ [V.ref t1, .ref t0])) := upd_same
        generalize upd (upd (upd H4 x (.lst (cutV (ts.map V.ref) none (some r)))) y (.lst [V.ref t1, .ref t0])) v (.lst (cutV (ts.map V.ref) none (some r) ++ [V.ref t1, .ref t0])) = H5 at sa hv ⊢
        refine ⟨_, rfl, _, rfl, _, _, rfl, rfl, _, rfl, l, _, rfl, sqL_of (sa _ _ hl4), fun w' nw => ?_⟩
        refine ⟨v, w', _, _, rfl, rfl, same_new nw _ _ hv, upd_same, ?_, fun u nu => ?_⟩
        · rw [List.length_append]
          show (cutV (ts.map V.ref) none (some r)).length + 2 + _ ≤ _
          omega
        have sb := sa.trans ((same_new (o := .lst (cutV (ts.map V.ref) (some (r + 2)) none)) nw).trans (same_new (o := .lst ((cutV (ts.map V.ref) none (some r) ++ [V.ref t1, .ref t0]) ++ cutV (ts.map V.ref) (some (r + 2)) none)) nu))
        refine kk _ _ ⟨u, (ta ++ [t1, t0]) ++ tb, (da ++ [c1, c0]) ++ db, _, v0, v1, rfl, b4.trans (But.of sb), sb _ _ hp4, ?_, ((ca'.keep sb).app (.cons (k1.keep sb) (.cons (k0.keep sb) .nil))).app (cb'.keep sb), fun c hc => ?_, ?_⟩
        · rw [upd_same, ea, eb, List.map_append, List.map_append]
          rfl
        · rcases List.mem_append.mp hc with hc | hc
          · rcases List.mem_append.mp hc with hc | hc
            · exact hfG c (ma c hc)
            · simp only [List.mem_cons, List.not_mem_nil, or_false] at hc
              rcases hc with rfl | rfl
              · exact hfG _ (List.mem_of_getElem? m1)
              · exact hfG _ (List.mem_of_getElem? m0)
          · exact hfG c (mb c hc)
        · rw [List.length_append, List.length_append]
          show da.length + 2 + db.length ≤ 34
          omega
      · exact iteD hl1 (nxt (kk _ _ ⟨l, ts, ds, _, y0, y1, rfl, bG, hpG, hlG, hdG, hfG, by omega⟩))
    · exact iteD hw (nxt (kk _ _ ⟨l, ts, ds, _, y0, y1, rfl, bG, hpG, hlG, hdG, hfG, by omega⟩))
  clear hlG hdG hfG lenG hpG bG
  rintro σ G ⟨l, ts, ds, y5, y0, y1, rfl, bG, hpG, hlG, hdG, hfG, lenG⟩
  try dsimp only
  -- the same columns with those changes, or with none
  have st : ∀ {X Y : Hp}, But p H X → Same X Y → But p H Y := fun a b => a.trans (But.of b)
  have cB : ∀ {X : Hp}, But p H X → H e0 = some (.lst (as0.map V.ref)) → X e0 = some (.lst (as0.map V.ref)) ∧ BCols X as0 cs := fun b q => ⟨refsL_but hp b q, e6.keepN (KeepNL.ofBut hp b)⟩
  have ok : ∀ {ds : List Ch}, Fits cs ds → ds.length ≤ 40 → HistOk cs ds := fun f n => ⟨o.pl, o.g, f, n⟩
  refine s_seq (fun σ' X => ∃ v : V, σ' = [some (.ref p), some (.ref h), some (.ref e0), some (.ref l), some (.int way), y5, some v, none, none] ∧ But p H X ∧ X p = some (.lst [.int y0, .int y1]) ∧ (v = .non ∨ ∃ m ds, v = .ref m ∧ BhAt K X m cs ds [] ∧ Fits cs ds ∧ ds.length ≤ 34)) ?_ fun kk => ?_
  rotate_left
  · obtain ⟨c1, c2⟩ := cB bG e5
    refine q_asgX ⟨_, rfl, _, rfl, e0, l, as0, ts, cs, ds, rfl, c1, c2, o.pl, o.g, hlG, hdG, hfG, by omega, fun X sX _ => ?_, fun m X nm sX hB hF => ?_⟩
    · exact kk _ _ ⟨_, rfl, st bG sX, sX _ _ hpG, .inl rfl⟩
    · exact kk _ _ ⟨_, rfl, st bG sX, sX _ _ hpG, .inr ⟨m, ds, rfl, hB, hF, lenG⟩⟩
  clear hlG hdG hfG lenG hpG bG
  rintro σ G ⟨v, rfl, bG, hpG, hv⟩
  let P6 : Nat → L2.St → Hp → Prop := fun n σ' X => ∃ (m : Addr) (ds : List Ch) (y7 y8 : Option V) (y0 y1 : Int), σ' = [some (.ref p), some (.ref h), some (.ref e0), some (.ref l), some (.int way), y5, some (.ref m), y7, y8] ∧ But p H X ∧ X p = some (.lst [.int y0, .int y1]) ∧ BhAt K X m cs ds [] ∧ Fits cs ds ∧ ds.length ≤ n
  try dsimp only
  refine s_seq (P6 34) ?_ fun kk => ?_
  rotate_left
  · refine q_asgX ⟨_, rfl, rfl, _, rfl, ?_⟩
    rcases hv with rfl | ⟨m, ds, rfl, hB, hF, lenG⟩
    · obtain ⟨c1, c2⟩ := cB bG e5
      refine iteDT rfl ⟨_, rfl, by show 0 ≤ sizeLine; decide, fun z nz => ?_⟩
      have sz := same_new (o := .lst []) nz
      refine ⟨e0, z, as0, [], cs, [], rfl, sz _ _ c1, c2.keep sz, o.pl, o.g, upd_same, .nil, fun c hc => by simp at hc, Nat.zero_le _, fun X sX ne => absurd rfl ne, fun m X nm sX hB hF => ?_⟩
      exact kk _ _ ⟨m, [], _, _, y0, y1, rfl, st bG (sz.trans sX), (sz.trans sX) _ _ hpG, hB, hF, Nat.zero_le _⟩
    · exact iteD (fun z => by cases z) ⟨_, rfl, kk _ _ ⟨m, ds, _, _, y0, y1, rfl, bG, hpG, hB, hF, lenG⟩⟩
  clear hpG bG hv
  rintro σ G ⟨m, ds, y7, y8, v0, v1, rfl, bG, hpG, hB, hF, lenG⟩
  try dsimp only
  have g6b : ∀ {X : Hp}, But p H X → X wd = some (.lst (ws.map V.str)) := fun b => strsL_but hp b g6
  -- one drawn change more
  refine s_seq (P6 35) ?_ fun kk => ?_
  rotate_left
  · refine ⟨_, rfl, rfl, _, rfl, ?_⟩
    by_cases hw : V.int way = V.int 2
    · refine iteDT hw ?_
      obtain ⟨sm, em, m1, am, b1, b2, b3, b4, b5, b6⟩ := hB.sheet (m := ds.length) (Nat.le_refl _)
      rw [List.take_length] at b6
      have gd : Good (atC cs ds).1 (atC cs ds).2 := by
        have := hF.good o.g ds.length (Nat.le_refl _)
        rwa [List.take_length] at this
      have dh : DGet G h (.str "words") (some (.ref wd)) := bh_words ((KeepNL.ofBut hp bG) _ _ (fun _ z => by cases z) g1)
      refine q_asg1 ⟨_, rfl, _, rfl, _, rfl, m, _, rfl, b1, 1, rfl, sm, _, -1, _, rfl, rfl, sqL_of b2, at_last b3 b4, _, rfl, h, _, rfl, dh, p, m1, wd, am, (atC cs ds).1, ws, v0, v1, 2, (atC cs ds).2, rfl, hpG, b5, b6, g6b bG, W, gd, by decide, by decide, fun t ch w0 w1 X _ hcf hcz bX hpX htX => ?_⟩
      refine ⟨m, t, cs, ds, [], ch, rfl, hB.but hpG bX, htX, gd, hcf, hcz, by omega, fun m' Y nm' sY hB' => ?_⟩
      exact kk _ _ ⟨m', ds ++ [ch], _, _, w0, w1, rfl, st (bG.trans bX) sY, sY _ _ hpX, hB', hF.app hcf hcz, by rw [List.length_append]; show ds.length + 1 ≤ 35; omega⟩
    · exact iteD hw (nxt (kk _ _ ⟨m, ds, _, _, v0, v1, rfl, bG, hpG, hB, hF, by omega⟩))
  clear hpG bG hB hF lenG
  rintro σ G ⟨m, ds, y7, y8, v0, v1, rfl, bG, hpG, hB, hF, lenG⟩
  try dsimp only
  refine s_seq (P6 36) ?_ fun kk => ?_
  rotate_left
  · refine ⟨_, rfl, rfl, _, rfl, ?_⟩
    by_cases hw : V.int way = V.int 3
    · refine iteDT hw ?_
      obtain ⟨sm, em, m1, am, b1, b2, b3, b4, b5, b6⟩ := hB.sheet (m := ds.length) (Nat.le_refl _)
      rw [List.take_length] at b6
      have gd : Good (atC cs ds).1 (atC cs ds).2 := by
        have := hF.good o.g ds.length (Nat.le_refl _)
        rwa [List.take_length] at this
      have ba := b6.len
      have one := gd.one
      have sx := gd.six
      have nmp : m1 ≠ p := fun z => by
        rw [z, hpG] at b5
        exact refs_no (HO.lst.inj (Option.some.inj b5)).symm
      refine q_asgX ⟨_, rfl, _, rfl, m, _, rfl, b1, 1, rfl, sm, _, -1, _, rfl, rfl, sqL_of b2, at_last b3 b4, p, m1, v0, v1, _, rfl, hpG, b5, nmp, by rw [List.length_map]; omega, by rw [List.length_map]; omega, fun x w0 w1 hx => ?_⟩
      dsimp only
      obtain ⟨a, ham, rfl⟩ := List.mem_map.mp hx
      obtain ⟨j, hj⟩ := List.mem_iff_getElem?.mp ham
      obtain ⟨c, hcj, hca⟩ := b6.at_ hj
      have hcm := List.mem_of_getElem? hcj
      have okc := (gd.ok c hcm).1
      have bX : But p G (upd G p (.lst [.int w0, .int w1])) := But.mut
      have hpX : upd G p (.lst [.int w0, .int w1]) p = some (.lst [.int w0, .int w1]) := upd_same
      have hBX := hB.but hpG bX
      have hcX := (KeepNL.ofBut hpG bX) _ _ (fun _ z => by cases z) hca
      generalize upd G p (.lst [.int w0, .int w1]) = X at bX hpX hBX hcX ⊢
      refine q_asgX ⟨_, rfl, a, _, rfl, bc_name hcX, _, rfl, a, _, rfl, bc_d hcX, by show 3 ≤ sizeLine; decide, fun t1 n1 => ?_⟩
      have s1 := same_new (o := .tup [V.str "default", .str c.name, c.dflt]) n1
      refine ⟨_, rfl, a, _, rfl, bc_name (s1 _ _ hcX), _, rfl, a, _, rfl, bc_g (s1 _ _ hcX), by show 4 ≤ sizeLine; decide, fun t2 n2 => ⟨by show 2 ≤ sizeLine; decide, fun q nq => ?_⟩⟩
      have s2 := same_new (o := .tup [V.str "greatest", .str c.name, .int c.top, .str "cut"]) n2
      have s3 := same_new (o := .lst [V.ref t1, .ref t2]) nq
      have s13 := (s1.trans s2).trans s3
      have ht1 := s3 _ _ (s2 _ _ (upd_same (H := X) (a := t1) (o := .tup [V.str "default", .str c.name, c.dflt])))
      have ht2 := s3 _ _ (upd_same (H := upd X t1 (.tup [V.str "default", .str c.name, c.dflt])) (a := t2) (o := .tup [V.str "greatest", .str c.name, .int c.top, .str "cut"]))
      have hq : upd (upd (upd X t1 (.tup [V.str "default", .str c.name, c.dflt])) t2 (.tup [V.str "greatest", .str c.name, .int c.top, .str "cut"])) q (.lst [V.ref t1, .ref t2]) q = some (.lst [V.ref t1, .ref t2]) := upd_same
      generalize upd (upd (upd X t1 (.tup [V.str "default", .str c.name, c.dflt])) t2 (.tup [V.str "greatest", .str c.name, .int c.top, .str "cut"])) q (.lst [V.ref t1, .ref t2]) = Y at s13 ht1 ht2 hq ⊢
      dsimp only
      have hpY := s13 _ _ hpX
      have nqp : q ≠ p := fun z => by
        rw [z, hpY] at hq
        cases hq
      refine q_asg1 ⟨_, rfl, _, rfl, _, rfl, p, q, w0, w1, _, rfl, hpY, hq, nqp, by show 0 < 2; decide, by show 2 < 1000000; decide, fun x u0 u1 hx => ?_⟩
      have bZ : But p Y (upd Y p (.lst [.int u0, .int u1])) := But.mut
      have hpZ : upd Y p (.lst [.int u0, .int u1]) p = some (.lst [.int u0, .int u1]) := upd_same
      have hBZ := (hBX.keep s13).but hpY bZ
      have kz := KeepNL.ofBut hpY bZ
      have q1 := kz _ _ (fun _ z => by cases z) ht1
      have q2 := kz _ _ (fun _ z => by cases z) ht2
      generalize upd Y p (.lst [.int u0, .int u1]) = Z at bZ hpZ hBZ q1 q2 ⊢
      simp only [List.mem_cons, List.not_mem_nil, or_false] at hx
      have bAll : But p H Z := ((bG.trans bX).trans (But.of s13)).trans bZ
      rcases hx with rfl | rfl
      · refine ⟨m, t1, cs, ds, [], .dflt c.name c.dflt, rfl, hBZ, sqT_of q1, gd, ?_, hz_dflt gd.names hcm okc.df, by omega, fun m' V' nm' sV hB' => ?_⟩
        · show (isNm (.str c.name) && isVal c.dflt) = true
          rw [okc.nm, in_isVP okc.df]
          rfl
        · refine kk _ _ ⟨m', ds ++ [.dflt c.name c.dflt], _, _, u0, u1, rfl, st bAll sV, sV _ _ hpZ, hB', hF.app ?_ (hz_dflt gd.names hcm okc.df), by rw [List.length_append]; show ds.length + 1 ≤ 36; omega⟩
          show (isNm (.str c.name) && isVal c.dflt) = true
          rw [okc.nm, in_isVP okc.df]
          rfl
      · have hg : hindV (atC cs ds).1 (.great c.name c.top "cut") = .non := hz_great gd.names hcm okc.df (.inl rfl)
        have hgf : (Ch.great c.name c.top "cut").fits = true := by
          show (isNm (.str c.name) && (isGr (.int c.top) && isWy "cut")) = true
          rw [okc.nm, okc.gr]
          decide +kernel
        refine ⟨m, t2, cs, ds, [], .great c.name c.top "cut", rfl, hBZ, sqT_of q2, gd, hgf, hg, by omega, fun m' V' nm' sV hB' => ?_⟩
        exact kk _ _ ⟨m', ds ++ [.great c.name c.top "cut"], _, _, u0, u1, rfl, st bAll sV, sV _ _ hpZ, hB', hF.app hgf hg, by rw [List.length_append]; show ds.length + 1 ≤ 36; omega⟩
    · exact iteD hw (nxt (kk _ _ ⟨m, ds, _, _, v0, v1, rfl, bG, hpG, hB, hF, by omega⟩))
  clear hpG bG hB hF lenG
  rintro σ G ⟨m, ds, y7, y8, v0, v1, rfl, bG, hpG, hB, hF, lenG⟩
  exact ⟨_, rfl, k m ds [] v0 v1 G bG hpG hB (ok hF (by omega))⟩
/-! _law_tuples: what may show that two histories are not alike, by a law -/
theorem cut_mem {xs : List V} {a b : Option Int} {y : V} (h : y ∈ cutV xs a b) : y ∈ xs := by
  unfold cutV at h
  exact List.mem_of_mem_drop (List.mem_of_mem_take h)
theorem cut_len {xs : List V} {a b : Option Int} : (cutV xs a b).length ≤ xs.length := by
  unfold cutV
  rw [List.length_take, List.length_drop]
  omega
def sp_tuples (K : PySem.W.Frag) : Sp := fun vs H Q _ => ∃ (h m : Addr) (cs : List Col) (chs dhs : List Ch) (ws us : List Str), vs = [.ref h, .ref m] ∧ BhAt K H h cs chs ws ∧ BhAt K H m cs dhs us ∧ HistOk cs chs ∧ HistOk cs dhs ∧ UpTo 4 cs chs ∧
  ∀ (l : Addr) (xs : List V) (H' : Hp), Same H H' → H' l = some (.lst xs) → (∀ x ∈ xs, ∃ b, TupB K H' cs chs dhs x b) → Q (.ref l) H'
theorem ok_tuples (T : Tx K mg) : Callee P w K mg base CX0 3 "_law_tuples" ["_law_h", "_law_m"] [] (sp_tuples K) := by
  have Ca := ok_all_rows (P := P) (w := w) (base := base) T
  refine mkCallee (fd__law_tuples T) (mg__law_tuples T) sc__law_tuples (fun _ _ _ _ _ _ us hl => match us, hl with | [_, _], _ => rfl) (fun vs H Q E h => ?_) (fun cdv A outer s H vs Q E hr h => ?_)
  · obtain ⟨h, m, cs, chs, dhs, ws, us, rfl, _⟩ := h
    rfl
  obtain ⟨h, m, cs, chs, dhs, ws, us, rfl, hh, hm, o, o2, up, k⟩ := h
  have nd := sc__law_tuples.nd
  have hu := hu_of hr
  have hsl : sizeLine = 16777216 := by decide
  refine ⟨_, (pss_cons (ps_setLc (i := 2) (own := [("_law_col", 5)]) (g := gName 5) (tt := tYes) (te := tDGet (tVar 5) (tC (.str "name"))) rfl nd rfl rfl (by rfl) (pi_list (pe_op op_cat (pe_ix ix_list (pe_dget hu (pv 0) pe_str (fun _ _ => rfl)) (pe_un un_neg pe_int) (fun _ _ => rfl)) (pe_ix ix_list (pe_dget hu (pv 1) pe_str (fun _ _ => rfl)) (pe_un un_neg pe_int) (fun _ _ => rfl)))) (blkOk_by (N := ["_law_h", "_law_m", "_law_names_here", "_law_found", "_law_row", "_law_col", "_law_name"]) (sc := defScope s__law_tuples) (by decide +kernel)) (fun _ _ _ _ _ => (pg_name (i := 5) nd rfl (Or.inl rfl))) (fun _ _ _ _ _ => pts_nil) (fun _ _ _ _ _ => (pe_dget hu (pv 5) pe_str (fun _ _ => rfl))))
        (pss_cons (ps_setLc (i := 3) (own := [("_law_name", 6)]) (g := gName 6) (tt := tYes) (te := tTup (tCons (tC (.str "column")) (tCons (tVar 6) tNil))) rfl nd rfl rfl (by rfl) (pi_list (pe_op op_cat (pv 2) (pe_lst (pa_cons pe_str pa_nil)))) (blkOk_by (N := ["_law_h", "_law_m", "_law_names_here", "_law_found", "_law_row", "_law_col", "_law_name"]) (sc := defScope s__law_tuples) (by decide +kernel)) (fun _ _ _ _ _ => (pg_name (i := 6) nd rfl (Or.inl rfl))) (fun _ _ _ _ _ => pts_nil) (fun _ _ _ _ _ => (pe_tup (pa_cons pe_str (pa_cons (pv 6) pa_nil)))))
        (pss_cons (ps_for PassesOwn.never rfl (pi_list (pcall Ca hr (pa_cons (pv 0) (pa_cons pe_int pa_nil)))) (pg_name (i := 4) nd rfl (Or.inr rfl)) (pss_one (ps_set (i := 3) nd rfl (Or.inl rfl) (pe_op op_cat (pe_op op_cat (pv 3) (pe_lst (pa_cons (pe_tup (pa_cons pe_str (pa_cons (pv 4) pa_nil))) pa_nil))) (pe_lc (own := [("_law_name", 6)]) (g := gName 6) (tt := tYes) (te := tTup (tCons (tC (.str "read")) (tCons (tVar 4) (tCons (tVar 6) tNil)))) rfl nd (pi_list (pe_op op_cat (pe_slice sl_list (pv 2) po_none (po_some pe_int)) (pe_lst (pa_cons pe_str pa_nil)))) (blkOk_by (N := ["_law_h", "_law_m", "_law_names_here", "_law_found", "_law_row", "_law_col", "_law_name"]) (sc := defScope s__law_tuples) (by decide +kernel)) (fun _ _ _ _ _ => (pg_name (i := 6) nd rfl (Or.inl rfl))) (fun _ _ _ _ _ => pts_nil) (fun _ _ _ _ _ => (pe_tup (pa_cons pe_str (pa_cons (pv 4) (pa_cons (pv 6) pa_nil))))))))))
        (pss_one (ps_ret (pv 3)))))), ?_⟩
  obtain ⟨sh, es, e, as, e1, e2, e3, e4, e5, e6⟩ := hh.sheet (m := chs.length) (Nat.le_refl _)
  obtain ⟨sh2, es2, e', as2, j1, j2, j3, j4, j5, j6⟩ := hm.sheet (m := dhs.length) (Nat.le_refl _)
  have six1 := (o.f.good o.g chs.length (Nat.le_refl _)).six
  have six2 := (o2.f.good o2.g dhs.length (Nat.le_refl _)).six
  have al1 := e6.len
  have al2 := j6.len
  have hb := e6.app j6
  refine q_asgX ?_
  refine tlc_G (K := K) (xs := (as ++ as2).map V.ref) (fun i y H' => ∃ n, y = .str n) (fun i y H1 H2 s2 q => q) (fun R q => ⟨_, rfl, h, _, rfl, e1, 1, rfl, sh, _, -1, _, rfl, rfl, sqL_of e2, at_last e3 e4, _, rfl, m, _, rfl, j1, 1, rfl, sh2, _, -1, _, rfl, rfl, sqL_of j2, at_last j3 j4, ?_⟩) (by rw [List.length_map, List.length_append]; omega) (fun _ => rfl) ?_ ?_
  · refine ⟨e, e', _, _, rfl, rfl, e5, j5, by rw [List.length_map, List.length_map]; omega, fun p np => ?_⟩
    rw [← List.map_append]
    exact q p _ (same_new np) (sqL_of upd_same)
  · intro i x hx H1 s1 R hR
    rw [List.getElem?_map] at hx
    cases ha : (as ++ as2)[i]? with
    | none =>
      rw [ha] at hx
      cases hx
    | some a =>
      rw [ha] at hx
      obtain rfl := Option.some.inj hx
      obtain ⟨c, hci, hat⟩ := hb.at_ ha
      exact ⟨_, rfl, a, _, rfl, bc_name (s1 _ _ hat), hR _ _ (Same.refl _) ⟨_, rfl⟩⟩
  intro l2 nms H1 nl2 s1 hl2 len2 hn2
  rw [List.length_map, List.length_append] at len2
  have hn2 : ∀ y ∈ nms, ∃ n, y = V.str n := fun y hy => by
    obtain ⟨i, hi⟩ := List.mem_iff_getElem?.mp hy
    exact hn2 i y hi
  dsimp only
  refine q_asgX ?_
  refine tlc_G (K := K) (xs := nms ++ [.str "zzzzzzzz"]) (fun i y H' => ∃ p n, y = .ref p ∧ SqT K H' p [.str "column", .str n]) (fun i y H1 H2 s2 ⟨p, n, q1, q2⟩ => ⟨p, n, q1, sqT_keepNL s2 q2⟩) (fun R q => ⟨_, rfl, by show 1 ≤ sizeLine; decide, fun u nu => ⟨l2, u, _, _, rfl, rfl, same_new nu _ _ hl2, upd_same, by show nms.length + 1 ≤ _; omega, fun p np => q p _ ((same_new nu).trans (same_new np)) (sqL_of upd_same)⟩⟩) (by rw [List.length_append]; show nms.length + 1 ≤ _; omega) (fun _ => rfl) ?_ ?_
  · intro i x hx H2 s2 R hR
    have hx := List.mem_of_getElem? hx
    have : ∃ n, x = V.str n := by
      rcases List.mem_append.mp hx with hx | hx
      · exact hn2 x hx
      · exact ⟨_, List.mem_singleton.mp hx⟩
    obtain ⟨n, rfl⟩ := this
    exact ⟨_, rfl, by show 2 ≤ sizeLine; decide, fun p np => hR _ _ (same_new np) ⟨p, n, rfl, sqT_of upd_same⟩⟩
  intro f xs H2 nf s2 hf lenf hx2
  have hx2 : ∀ x ∈ xs, ∃ b, TupB K H2 cs chs dhs x b := fun x hx => by
    obtain ⟨i, hi⟩ := List.mem_iff_getElem?.mp hx
    obtain ⟨p, n, rfl, hp⟩ := hx2 i x hi
    exact ⟨_, .col hp⟩
  rw [List.length_append] at lenf
  have lenf : xs.length ≤ 13 := by
    have e : [V.str "zzzzzzzz"].length = 1 := rfl
    omega
  have s02 := s1.trans s2
  try dsimp only
  refine ⟨_, rfl, h, cs, chs, ws, 0, rfl, hh.keep s02, o, up, Nat.zero_le _, fun l rs ess H3 nl s3 hl R3 mem lenE => ?_⟩
  refine ⟨l, rfl, ⟨_, sqL_of hl⟩, ?_⟩
  have lenR : rs.length ≤ 46656 := by rw [R3.1]; exact lenE
  refine for_list (xs := rs.map V.ref) (fun i σ H' => Same H3 H' ∧ ∃ (f : Addr) (xs : List V) (y4 y5 y6 : Option V), σ = [some (.ref h), some (.ref m), some (.ref l2), some (.ref f), y4, y5, y6] ∧ H' f = some (.lst xs) ∧ (∀ x ∈ xs, ∃ b, TupB K H' cs chs dhs x b) ∧ xs.length ≤ 13 + 20 * i) ⟨Same.refl _, f, xs, _, _, _, rfl, s3 _ _ hf, fun x hx => (hx2 x hx).imp fun b q => q.keep s3, by omega⟩ (fun i σ H' _ q => sqL_of (q.1 _ _ hl)) ?_ ?_
  · rintro i x σ H4 hx ⟨s4, f4, xs4, y4, y5, y6, rfl, hf4, hx4, len4⟩
    rw [List.getElem?_map] at hx
    cases hri : rs[i]? with
    | none =>
      rw [hri] at hx
      cases hx
    | some r =>
    rw [hri] at hx
    obtain rfl := Option.some.inj hx
    have hir := (List.getElem?_eq_some_iff.mp hri).1
    have hei : ess[i]? = some (ess[i]'(by rw [← R3.1]; exact hir)) := List.getElem?_eq_getElem _
    generalize ess[i]'(by rw [← R3.1]; exact hir) = eh at hei
    have st := (R3.2 i r eh hri hei).keep s4
    have fit : FitE cs eh := (mem eh).mp (List.mem_of_getElem? hei)
    have hl24 := s4 _ _ (s3 _ _ (s2 _ _ hl2))
    refine ⟨_, rfl, _, rfl, by show 2 ≤ sizeLine; decide, fun p np => ⟨by show 1 ≤ sizeLine; decide, fun u nu => ⟨f4, u, xs4, [.ref p], rfl, rfl, ?_, upd_same, by show xs4.length + 1 ≤ _; omega, fun q nq => ?_⟩⟩⟩
    · exact same_new nu _ _ (same_new np _ _ hf4)
    have sa := ((same_new (o := .tup [V.str "row", .ref r]) np).trans (same_new (o := .lst [V.ref p]) nu)).trans (same_new (o := .lst (xs4 ++ [.ref p])) nq)
    have hp5 := (same_new (o := .lst (xs4 ++ [V.ref p])) nq) _ _ ((same_new (o := .lst [V.ref p]) nu) _ _ (upd_same (H := H4) (a := p) (o := .tup [V.str "row", .ref r])))
    have hq5 : upd (upd (upd H4 p (.tup [V.str "row", .ref r])) u (.lst [V.ref p])) q (.lst (xs4 ++ [V.ref p])) q = some (.lst (xs4 ++ [V.ref p])) := upd_same
    generalize upd (upd (upd H4 p (.tup [V.str "row", .ref r])) u (.lst [V.ref p])) q (.lst (xs4 ++ [V.ref p])) = H5 at sa hp5 hq5 ⊢
    refine tlc_G (K := K) (xs := cutV nms none (some 3) ++ [.str "zzzzzzzz"]) (fun i y H' => ∃ p n, y = .ref p ∧ SqT K H' p [.str "read", .ref r, .str n]) (fun i y H1 H2 s2 ⟨p, n, q1, q2⟩ => ⟨p, n, q1, sqT_keepNL s2 q2⟩) (fun R rr => ⟨_, rfl, 3, rfl, l2, _, rfl, sqL_of (sa _ _ hl24), fun v nv => ⟨by show 1 ≤ sizeLine; decide, fun u nu => ⟨v, u, _, _, rfl, rfl, same_new nu _ _ upd_same, upd_same, ?_, fun p np => rr p _ (((same_new nv).trans (same_new nu)).trans (same_new np)) (sqL_of upd_same)⟩⟩⟩) ?_ (fun _ => rfl) ?_ ?_
    · have := cut_len (xs := nms) (a := none) (b := some 3)
      show (cutV nms none (some 3)).length + 1 ≤ _
      omega
    · have := cut_len (xs := nms) (a := none) (b := some 3)
      rw [List.length_append]
      show (cutV nms none (some 3)).length + 1 ≤ _
      omega
    · intro j y hy H6 s6 R hR
      have hy := List.mem_of_getElem? hy
      have : ∃ n, y = V.str n := by
        rcases List.mem_append.mp hy with hy | hy
        · exact hn2 y (cut_mem hy)
        · exact ⟨_, List.mem_singleton.mp hy⟩
      obtain ⟨n, rfl⟩ := this
      exact ⟨_, rfl, _, rfl, by show 3 ≤ sizeLine; decide, fun p np => hR _ _ (same_new np) ⟨p, n, rfl, sqT_of upd_same⟩⟩
    intro g zs H6 ng s6 hg lenz hz
    have lz : zs.length ≤ 14 := by
      have := cut_len (xs := nms) (a := none) (b := some 3)
      rw [List.length_append] at lenz
      have e : [V.str "zzzzzzzz"].length = 1 := rfl
      omega
    refine ⟨q, g, _, _, rfl, rfl, s6 _ _ hq5, hg, by rw [List.length_append]; show xs4.length + 1 + zs.length ≤ _; omega, fun v nv => ?_⟩
    have s7 : Same H6 (upd H6 v (.lst ((xs4 ++ [V.ref p]) ++ zs))) := same_new nv
    have s47 := (sa.trans s6).trans s7
    refine ⟨s4.trans s47, v, (xs4 ++ [V.ref p]) ++ zs, _, _, _, rfl, upd_same, fun x hx => ?_, ?_⟩
    · rcases List.mem_append.mp hx with hx | hx
      · rcases List.mem_append.mp hx with hx | hx
        · exact (hx4 x hx).imp fun b q => q.keep s47
        · obtain rfl := List.mem_singleton.mp hx
          exact ⟨_, .row (sqT_of (s7 _ _ (s6 _ _ hp5))) (st.keep s47) fit⟩
      · obtain ⟨j, hj⟩ := List.mem_iff_getElem?.mp hx
        obtain ⟨p', n, rfl, hp'⟩ := hz j x hj
        exact ⟨_, .read (same_tup s7 hp') (st.keep s47) fit⟩
    · rw [List.length_append, List.length_append]
      show xs4.length + 1 + zs.length ≤ _
      omega
  · rintro σ H4 ⟨s4, f4, xs4, y4, y5, y6, rfl, hf4, hx4, len4⟩
    exact ⟨_, rfl, k f4 xs4 H4 ((s02.trans s3).trans s4) hf4 hx4⟩
def sp_law (K : PySem.W.Frag) : Sp := fun vs H Q _ => ∃ (a : Addr) (ns : List Int), vs = [.ref a] ∧ SqL K H a (ns.map V.int) ∧ ns.length ≤ 63 ∧ (∀ z ∈ ns, Builtin.Int.intBits z ≤ 1048576) ∧ ∀ H', Q (.bl true) H'
abbrev NL : List Str := ["_law_script", "_law_k", "_law_pool_here", "_law_h", "_law_m", "_law_one", "_law_other", "_law_value", "_law_row", "_law_odds", "_law_odd"]
theorem pl_forV {K : PySem.W.Frag} {te : TE} {g : TG} {tb U : TS} {D : Ends} {σ : L2.St} {H : Hp} (h : te σ H fun x H2 => ∃ a, x = .ref a ∧ (∃ xs, SqL K H2 a xs) ∧ tFor (fun _ H R => R (Itl K a) H) g tb { D with nx := U D } σ H2) : tSeq (tFor (iList K te) g tb) U D σ H := h
theorem pl_forW {K : PySem.W.Frag} {te : TE} {g : TG} {tb : TS} {D : Ends} {σ : L2.St} {H : Hp} (h : te σ H fun x H2 => ∃ a, x = .ref a ∧ (∃ xs, SqL K H2 a xs) ∧ tFor (fun _ H R => R (Itl K a) H) g tb D σ H2) : tFor (iList K te) g tb D σ H := h
theorem sqL_tyU {K : PySem.W.Frag} {H : Hp} {a : Addr} {xs : List V} (h : SqL K H a xs) : TyX K H (.ref a) (.type "list") := by
  rcases h with (h | ⟨o, h⟩) | ⟨o, its, n, h, hc, _⟩
  · exact .base (.lst h)
  · exact .base (.frz h)
  · exact .kList h hc
theorem UnV.keep {K : PySem.W.Frag} {H H' : Hp} {cs : List Col} {chs dhs : List Ch} {x : V} {b : Bool} (s : Same H H') (h : UnV K H cs chs dhs x b) : UnV K H' cs chs dhs x b := by
  cases h with
  | no ty hk => exact .no (fun G g => ty G (s.trans g)) hk
  | few h hl => exact .few (same_tup s h) hl
  | other h n2 n3 => exact .other (same_tup s h) n2 n3
  | col h hx => exact .col (same_tup s h) (hx.imp_right fun ⟨a, b⟩ => ⟨a, fun G g => b G (s.trans g)⟩)
  | row h r1 r2 => exact .row (same_tup s h) (r1.keep s) (r2.keep s)
  | rowN h hx => exact .rowN (same_tup s h) fun G g => hx G (s.trans g)
  | read h r1 r2 hx => exact .read (same_tup s h) (r1.keep s) (r2.keep s) (hx.imp_right fun ⟨a, b⟩ => ⟨a, fun G g => b G (s.trans g)⟩)
/-- a row of edition 0 with 1 in its place: whatever is_stored says of it -/
theorem late_row0 {K : PySem.W.Frag} {H : Hp} {cs : List Col} {chs : List Ch} {q e : Addr} {as : List Addr} {es : List (Int × V)} (hq : SqT K H q [.int 1, .ref e]) (he : SqT K H e (as.map V.ref)) (hE : Ents K H as es) (ok : ∀ p ∈ es, isVal p.2 = true) : ∃ b, StV K H cs chs (.ref q) b := by
  have tv : ∀ {v : V}, isVal v = true → ∀ G, ∃ t, TyX K G v (.type t) := fun {v} h G => by
    cases v with
    | non => exact ⟨_, .base .non⟩
    | int i => exact ⟨_, .base (.int i)⟩
    | _ => cases h
  cases hed : isEd chs.length (.int 1) with
  | false => exact ⟨false, .ed hq (.base (.int 1)) hed⟩
  | true =>
    by_cases hl : (as.map V.ref).length = (colsAt cs chs (.int 1)).length
    · refine ⟨_, .all (((colsAt cs chs (.int 1)).zip es).map fun ce => entB ce.1 (.int ce.2.1) ce.2.2) hq (.base (.int 1)) hed he hl ?_ fun i c x b hc hx hb H' s' => ?_⟩
      · have := hE.len
        rw [List.length_map] at hl ⊢
        rw [List.length_map, List.length_zip]
        omega
      · rw [List.getElem?_map] at hx hb
        cases ha : as[i]? with
        | none =>
          rw [ha] at hx
          cases hx
        | some a =>
          rw [ha] at hx
          obtain rfl := Option.some.inj hx
          obtain ⟨p, hp, hpa⟩ := hE.at_ ha
          have hz : ((colsAt cs chs (.int 1)).zip es)[i]? = some (c, p) := by
            rw [List.getElem?_zip_eq_some]
            exact ⟨hc, hp⟩
          rw [hz] at hb
          obtain rfl := Option.some.inj hb
          obtain ⟨t, ht⟩ := tv (ok p (List.mem_of_getElem? hp)) H'
          exact .two (same_tup s' hpa) (.base (.int _)) ht
    · exact ⟨false, .few hq (.base (.int 1)) hed he hl⟩
section
variable {K : PySem.W.Frag} {cs : List Col} {chs dhs : List Ch} {B : Hp → Prop} {σ : L2.St} {te : TE} {ta : TA}
/-- what an expression makes shows nothing -/
def MU (K : PySem.W.Frag) (cs : List Col) (chs dhs : List Ch) (B : Hp → Prop) (σ : L2.St) (te : TE) : Prop := ∀ (H : Hp) (Q : VK), B H → (∀ v H', Same H H' → UnV K H' cs chs dhs v false → Q v H') → te σ H Q
def MUs (K : PySem.W.Frag) (cs : List Col) (chs dhs : List Ch) (B : Hp → Prop) (σ : L2.St) (ta : TA) (n : Nat) : Prop := ∀ (H : Hp) (Q : List V → Hp → Prop), B H → (∀ vs H', Same H H' → (∀ x ∈ vs, UnV K H' cs chs dhs x false) → vs.length = n → Q vs H') → ta σ H Q
theorem mus_nil : MUs K cs chs dhs B σ tNil 0 := fun H Q _ k => k [] H (Same.refl _) (fun x hx => by cases hx) rfl
theorem mus_cons {n : Nat} (hB : ∀ H H', Same H H' → B H → B H') (h : MU K cs chs dhs B σ te) (t : MUs K cs chs dhs B σ ta n) : MUs K cs chs dhs B σ (tCons te ta) (n + 1) := fun H Q b k =>
  h H _ b fun v H1 s1 u => t H1 _ (hB _ _ s1 b) fun vs H2 s2 us hl => k (v :: vs) H2 (s1.trans s2) (fun x hx => by
    rcases List.mem_cons.mp hx with rfl | hx
    · exact u.keep s2
    · exact us x hx) (by rw [List.length_cons, hl])
theorem mus_lst {n : Nat} (hn : n ≤ 1000) (t : MUs K cs chs dhs B σ ta n) (H : Hp) (Q : VK) (b : B H) (k : ∀ q xs H', Same H H' → H' q = some (.lst xs) → (∀ x ∈ xs, UnV K H' cs chs dhs x false) → xs.length = n → Q (.ref q) H') : tLst ta σ H Q :=
  t H _ b fun vs H1 s1 us hl => ⟨by
    have e : sizeLine = 16777216 := by decide
    omega, fun q nq => k q vs _ (s1.trans (same_new nq)) upd_same (fun x hx => (us x hx).keep (same_new nq)) hl⟩
theorem mu_non : MU K cs chs dhs B σ (tC .non) := fun H Q _ k => k _ H (Same.refl _) (.no (fun _ _ => .base .non) (by decide +kernel))
theorem mu_int {i : Int} : MU K cs chs dhs B σ (tC (.int i)) := fun H Q _ k => k _ H (Same.refl _) (.no (fun _ _ => .base (.int i)) (by decide +kernel))
theorem mu_str {z : Str} : MU K cs chs dhs B σ (tC (.str z)) := fun H Q _ k => k _ H (Same.refl _) (.no (fun _ _ => .base (.str z)) (by decide +kernel))
end
theorem ok_law (T : Tx K mg) {fd : FuncData} (F : FunD K "law" "law" (defArgs s_law) (defBody s_law) (defScope s_law) (d_law.dvs K) (d_law.kws K) (He.ga K "law") fd) : FnOk P w K mg base CX0 14 (He.ga K "law") fd ["_law_script"] (sp_law K) := by
  have Cpool := (ok_pool (P := P) (w := w) (base := base) T).up (show 1 ≤ 13 by decide)
  have Chist := (ok_historyL (P := P) (w := w) (base := base) T).up (show 6 ≤ 13 by decide)
  have Cmade := ok_madeL (P := P) (w := w) (base := base) T
  have Cnear := (ok_near (P := P) (w := w) (base := base) T).up (show 7 ≤ 13 by decide)
  have Ctup := (ok_tuples (P := P) (w := w) (base := base) T).up (show 3 ≤ 13 by decide)
  have Csh := (ok_shows (P := P) (w := w) (base := base) T).up (show 5 ≤ 13 by decide)
  have Cun := (ok_is_unlike (P := P) (w := w) (base := base) T).up (show 9 ≤ 13 by decide)
  have Car := (ok_all_rows (P := P) (w := w) (base := base) T).up (show 2 ≤ 13 by decide)
  have gr : mg "range" = none := fr_range T
  have gl : mg "len" = none := fr_len T
  refine F.ok (CX := CX0) (N := NL) sc_law (fun vs H Q E h => ?_) (fun cdv A outer s H vs Q E hr h => ?_)
  · obtain ⟨a, ns, rfl, _⟩ := h
    rfl
  suffices hh : ∃ t, PSs (cxOf CX0 P w K mg base NL "law" (defScope s_law) (He.ga K "law") cdv A outer s H E).nox (defBody s_law) t ∧ t { nx := fun _ H' => Q .non H', rt := Q } (start NL vs) H by
    obtain ⟨t, h1, h2⟩ := hh
    exact ⟨t, h1.nox, h2⟩
  obtain ⟨a, ns, rfl, hs, hlen, _, kk⟩ := h
  have nd := sc_law.nd
  have hz : sizeLine = 16777216 := by decide
  refine ⟨_, (pss_cons (ps_for PassesOwn.never rfl (pi_range1 (by rfl) gr (pa_cons (pe_callB (call_max2 rfl) (by rfl) (fr_max T) (by decide +kernel) (pa_cons pe_int (pa_cons (pe_callB (call_min2 rfl) (by rfl) (fr_min T) (by decide +kernel) (pa_cons (pe_callB call_len (by rfl) gl PySem.boot_len (pa_cons (pv 0) pa_nil)) (pa_cons pe_int pa_nil))) pa_nil))) pa_nil)) (pg_name (i := 1) nd rfl (Or.inl rfl)) (pss_cons (ps_set (i := 2) nd rfl (Or.inl rfl) (pcall Cpool hr (pa_cons (pv 0) (pa_cons (pv 1) pa_nil))))
        (pss_cons (ps_set (i := 3) nd rfl (Or.inl rfl) (pcall Chist hr (pa_cons (pv 2) (pa_cons pe_int (pa_cons pe_int (pa_cons pe_int pa_nil))))))
        (pss_cons (ps_set (i := 4) nd rfl (Or.inl rfl) (pcall Cnear hr (pa_cons (pv 2) (pa_cons (pv 3) pa_nil))))
        (pss_cons (ps_par (i := 5) (j := 6) rfl nd rfl rfl (by decide) rfl rfl (pa_cons (pcall Cmade hr (pa_cons (pv 3) pa_nil)) (pa_cons (pcall Cmade hr (pa_cons (pv 4) pa_nil)) pa_nil)) (by rfl))
        (pss_cons (ps_for PassesOwn.never rfl (pi_list (pcall Ctup hr (pa_cons (pv 3) (pa_cons (pv 4) pa_nil)))) (pg_name (i := 7) nd rfl (Or.inl rfl)) (pss_one (ps_if (pt_cmpR op_ne (pcall Cun hr (pa_cons (pv 5) (pa_cons (pv 6) (pa_cons (pv 7) pa_nil)))) (pcall Csh hr (pa_cons (pv 3) (pa_cons (pv 4) (pa_cons (pv 7) pa_nil)))) (nomark _)) (pss_one (ps_ret pe_bl)) pss_nil)))
        (pss_cons (ps_set (i := 8) nd rfl (Or.inl rfl) (pe_ix ix_list (pcall Car hr (pa_cons (pv 3) (pa_cons pe_int pa_nil))) pe_int (fun _ _ => rfl)))
        (pss_cons (ps_set (i := 9) nd rfl (Or.inl rfl) (pe_lst (pa_cons pe_non (pa_cons pe_int (pa_cons (pe_tup pa_nil) (pa_cons pe_str (pa_cons (pe_tup (pa_cons pe_str pa_nil)) (pa_cons (pe_tup (pa_cons pe_str (pa_cons pe_non pa_nil))) (pa_cons (pe_tup (pa_cons pe_str (pa_cons pe_non pa_nil))) (pa_cons (pe_tup (pa_cons pe_str (pa_cons (pv 8) (pa_cons pe_int pa_nil)))) (pa_cons (pe_tup (pa_cons pe_str (pa_cons (pv 8) pa_nil))) pa_nil)))))))))))
        (pss_one (ps_for PassesOwn.never rfl (pi_list (pe_op op_cat (pv 9) (pe_lst (pa_cons (pe_tup (pa_cons pe_str (pa_cons (pv 8) pa_nil))) (pa_cons (pe_lst (pa_cons pe_str (pa_cons (pv 8) pa_nil))) (pa_cons (pe_tup (pa_cons pe_str (pa_cons (pe_callTy call_list_of (by rfl) (fr_list T) (by decide +kernel) (pa_cons (pv 8) pa_nil)) pa_nil))) (pa_cons (pe_tup (pa_cons pe_str (pa_cons (pv 8) (pa_cons pe_non pa_nil)))) (pa_cons (pe_tup (pa_cons pe_str (pa_cons (pe_op op_catT (pe_tup (pa_cons pe_int pa_nil)) (pe_slice sl_tup (pv 8) (po_some pe_int) po_none)) pa_nil))) pa_nil)))))))) (pg_name (i := 10) nd rfl (Or.inl rfl)) (pss_one (ps_if (pt_cmpR op_notBl (pcall Cun hr (pa_cons (pv 5) (pa_cons (pv 6) (pa_cons (pv 10) pa_nil)))) pe_bl (nomark _)) (pss_one (ps_ret pe_bl)) pss_nil))))))))))))
        (pss_one (ps_ret pe_bl))), ?_⟩
  refine ⟨_, rfl, _, (ns.map V.int).length, rfl, .inl ⟨_, hs, rfl⟩, _, _, rfl, _, _, rfl, _, rfl, ?_, ?_, ?_⟩
  · split <;> (try split) <;> omega
  · split <;> (try split) <;> omega
  generalize hN : (if (if (2 : Int) < (((ns.map V.int).length : Nat) : Int) then (2 : Int) else (((ns.map V.int).length : Nat) : Int)) > 1 then (if (2 : Int) < (((ns.map V.int).length : Nat) : Int) then (2 : Int) else (((ns.map V.int).length : Nat) : Int)) else 1) = nT
  have hT2 : nT ≤ 2 := by
    rw [← hN]
    split <;> (try split) <;> omega
  refine for_range (lo := 0) (n := nT.toNat) (fun i σ H' => Same H H' ∧ ∃ y1 y2 y3 y4 y5 y6 y7 y8 y9 y10 : Option V, σ = [some (.ref a), y1, y2, y3, y4, y5, y6, y7, y8, y9, y10]) ⟨Same.refl _, _, _, _, _, _, _, _, _, _, _, rfl⟩ ?_ ?_
  case refine_2 =>
    rintro σ H' ⟨_, y1, y2, y3, y4, y5, y6, y7, y8, y9, y10, rfl⟩
    exact kk H'
  rintro i σ H0 hi ⟨sH, y1, y2, y3, y4, y5, y6, y7, y8, y9, y10, rfl⟩
  have hk0 : 0 ≤ (0 : Int) + (i : Int) := by omega
  have hk1 : (0 : Int) + (i : Int) ≤ 1000 := by omega
  generalize hkk : (0 : Int) + (i : Int) = kI at hk0 hk1
  refine q_asgX ⟨_, rfl, _, rfl, a, ns, kI, rfl, sH.seq hs, hk0, hk1, fun p H1 z0 z1 np s1 hp1 => ?_⟩
  have np0 : H p = none := sH.free np
  try dsimp only
  refine q_asgX ⟨_, rfl, p, z0, z1, 2, 2, 4, rfl, hp1, by decide, by decide, by decide, by decide, by decide, by decide, fun h cs chs ws u0 u1 H2 b2 hp2 hB W o hle hmu => ?_⟩
  have up := UpTo.mono (show (2 : Int) ≤ 4 by decide) hmu.2
  try dsimp only
  refine q_asgX ⟨_, rfl, _, rfl, p, h, cs, chs, ws, u0, u1, rfl, hp2, hB, W, o, by omega, fun m dhs us v0 v1 H3 b3 hp3 hM o2 => ?_⟩
  have hB := hB.but hp2 b3
  have sB : Same H H3 := (b2.trans b3).same (sH.trans s1) np0
  clear hp1 s1 b2 hp2 b3 hp3
  try dsimp only
  refine pl_parV ?_
  refine ⟨_, rfl, h, cs, chs, ws, rfl, hB, o, fun h1 H4 _ s4 hH1 => ⟨_, rfl, m, cs, dhs, us, rfl, hM.keep s4, o2, fun h2 H5 _ s5 hH2 => ⟨_, _, rfl, ?_⟩⟩⟩
  have hH1 := hH1.at_.keep s5
  have hH2 := hH2.at_
  have s45 := s4.trans s5
  have hB := hB.keep s45
  have hM := hM.keep s45
  have sB := sB.trans s45
  clear s4 s5 s45
  try dsimp only
  -- the tuples of the law
  refine pl_forV ⟨_, rfl, _, rfl, h, m, cs, chs, dhs, ws, us, rfl, hB, hM, o, o2, up, fun l xs H6 s6 hl hx => ⟨l, rfl, ⟨_, sqL_of hl⟩, ?_⟩⟩
  refine for_list (xs := xs) (fun i σ H' => Same H6 H' ∧ ∃ y7 y8 y9 y10 : Option V, σ = [some (.ref a), some (.int kI), some (.ref p), some (.ref h), some (.ref m), some (.ref h1), some (.ref h2), y7, y8, y9, y10]) ⟨Same.refl _, _, _, _, _, rfl⟩ (fun i σ H' _ q => sqL_of (q.1 _ _ hl)) ?_ ?_
  · rintro i x σ H7 hxi ⟨s7, y7, y8, y9, y10, rfl⟩
    obtain ⟨b, tb⟩ := hx x (List.mem_of_getElem? hxi)
    have s67 := s6.trans s7
    refine ⟨_, rfl, _, rfl, _, rfl, h1, h2, cs, chs, dhs, x, b, rfl, hH1.keep s67, hH2.keep s67, o, o2, (tb.keep s7).un, fun H8 s8 => ?_⟩
    have s68 := s67.trans s8
    refine ⟨_, rfl, _, rfl, _, rfl, h, m, cs, chs, dhs, ws, us, x, b, rfl, hB.keep s68, hM.keep s68, o, o2, up, tb.keep (s7.trans s8), fun H9 s9 => ?_⟩
    exact ⟨rfl, _, rfl, iteNS rfl (nxt ⟨(s7.trans s8).trans s9, _, _, _, _, rfl⟩)⟩
  rintro σ H7 ⟨s7, y7, y8, y9, y10, rfl⟩
  have s67 := s6.trans s7
  have hB := hB.keep s67
  have hM := hM.keep s67
  have hH1 := hH1.keep s67
  have hH2 := hH2.keep s67
  have sB := sB.trans s67
  clear s6 s7 s67 hx hl
  try dsimp only
  -- a row of edition 0
  refine q_asgX ⟨_, rfl, h, cs, chs, ws, 0, rfl, hB, o, up, Nat.zero_le _, fun lr rs ess H8 _ s8 hlr R mem _ => ?_⟩
  have hne : (cs.map fun c => (c.num, V.non)) ∈ ess := (mem _).mpr ⟨List.length_map _, fun j c hc => ⟨.non, by
    have hc : cs[j]? = some c := hc
    rw [List.getElem?_map, hc]
    rfl, rfl⟩⟩
  have h0 : 0 < rs.length := by
    rw [R.1]
    exact List.length_pos_of_mem hne
  have hr0 : rs[0]? = some rs[0] := List.getElem?_eq_getElem h0
  have he0 : ess[0]? = some (ess[0]'(by rw [← R.1]; exact h0)) := List.getElem?_eq_getElem _
  generalize rs[0] = r at hr0
  generalize ess[0]'(by rw [← R.1]; exact h0) = es at he0
  have st : StF K H8 r 0 es := R.2 0 r es hr0 he0
  have fit : FitE cs es := (mem es).mp (List.mem_of_getElem? he0)
  refine ⟨lr, _, 0, _, rfl, rfl, sqL_of hlr, atI_nat (j := 0) (by rw [List.getElem?_map, hr0]; rfl), ?_⟩
  have hB := hB.keep s8
  have hH1 := hH1.keep s8
  have hH2 := hH2.keep s8
  have sB := sB.trans s8
  clear s8 hlr R mem hne he0 hr0 hM
  try dsimp only
  -- what shows nothing
  have hBm : ∀ G G' : Hp, Same G G' → Same H8 G → Same H8 G' := fun G G' g b => b.trans g
  obtain ⟨q0, as0, ob, w1, w2, w3, w4⟩ := id st
  have hv0 : ∀ pr ∈ es, isVal pr.2 = true := fun pr hpr => by
    obtain ⟨j, hj⟩ := List.mem_iff_getElem?.mp hpr
    have hl := (List.getElem?_eq_some_iff.mp hj).1
    rw [fit.1] at hl
    obtain ⟨v, h1, h2⟩ := fit.2 j _ (List.getElem?_eq_getElem hl)
    obtain rfl := Option.some.inj (hj.symm.trans h1)
    exact in_isV h2
  have nostr : ∀ {X : Hp}, noStr K X .non := noStr_non
  refine q_asgX (mus_lst (K := K) (cs := cs) (chs := chs) (dhs := dhs) (B := fun G => Same H8 G) (n := 9) (by decide) ?_ H8 _ (Same.refl _) fun qo xs H9 s9 hqo hxo lenO => ?_)
  · refine mus_cons hBm mu_non (mus_cons hBm mu_int (mus_cons hBm ?_ (mus_cons hBm mu_str (mus_cons hBm ?_ (mus_cons hBm ?_ (mus_cons hBm ?_ (mus_cons hBm ?_ (mus_cons hBm ?_ mus_nil))))))))
    · exact fun G R b k => ⟨by show 0 ≤ sizeLine; decide, fun t nt => k _ _ (same_new nt) (.few (sqT_of upd_same) (by decide))⟩
    · exact fun G R b k => ⟨by show 1 ≤ sizeLine; decide, fun t nt => k _ _ (same_new nt) (.few (sqT_of upd_same) (by show 1 < 2; decide))⟩
    · exact fun G R b k => ⟨by show 2 ≤ sizeLine; decide, fun t nt => k _ _ (same_new nt) (.col (x := .non) (sqT_of upd_same) (.inr ⟨(fun n z => by cases z), fun _ _ => noStr_non⟩))⟩
    · exact fun G R b k => ⟨by show 2 ≤ sizeLine; decide, fun t nt => k _ _ (same_new nt) (.rowN (x := .non) (sqT_of upd_same) fun _ _ => ⟨false, .no (.base .non) (by decide +kernel), .inl rfl⟩)⟩
    · exact fun G R b k => ⟨_, rfl, by show 3 ≤ sizeLine; decide, fun t nt => k _ _ (same_new nt) (.other (z := "row") (sqT_of upd_same) (fun z => by cases z) (fun _ => by decide +kernel))⟩
    · exact fun G R b k => ⟨_, rfl, by show 2 ≤ sizeLine; decide, fun t nt => k _ _ (same_new nt) (.other (z := "read") (sqT_of upd_same) (fun _ => ⟨by decide +kernel, by decide +kernel⟩) (fun z => by cases z))⟩
  try dsimp only
  refine pl_forW ?_
  refine ⟨_, rfl, mus_lst (K := K) (cs := cs) (chs := chs) (dhs := dhs) (B := fun G => Same H8 G) (n := 5) (by decide) ?_ H9 _ s9 fun qp ys H10 s10 hqp hyo lenP => ?_⟩
  · refine mus_cons hBm ?_ (mus_cons hBm ?_ (mus_cons hBm ?_ (mus_cons hBm ?_ (mus_cons hBm ?_ mus_nil))))
    · exact fun G R b k => ⟨_, rfl, by show 2 ≤ sizeLine; decide, fun t nt => k _ _ (same_new nt) (.other (z := "Row") (sqT_of upd_same) (fun _ => ⟨by decide +kernel, by decide +kernel⟩) (fun z => by cases z))⟩
    · exact fun G R b k => ⟨_, rfl, by show 2 ≤ sizeLine; decide, fun t nt => k _ _ (same_new nt) (.no (fun G' g => sqL_tyU (sqL_of (g _ _ upd_same))) (by decide +kernel))⟩
    · exact fun G R b k => ⟨_, rfl, r, _, rfl, .inr (same_tup b w1), fun u nu => ⟨by show 2 ≤ sizeLine; decide, fun t nt => k _ _ ((same_new nu).trans (same_new nt)) (.rowN (sqT_of upd_same) fun G' g => ⟨false, .no (sqL_tyU (sqL_of (g _ _ (same_new nt _ _ upd_same)))) (by decide +kernel), .inl rfl⟩)⟩⟩
    · exact fun G R b k => ⟨_, rfl, by show 3 ≤ sizeLine; decide, fun t nt => k _ _ (same_new nt) (.read (x := .non) (sqT_of upd_same) ⟨st.keep (b.trans (same_new nt)), fit, Nat.zero_le _⟩ ⟨st.keep (b.trans (same_new nt)), fit, Nat.zero_le _⟩ (.inr ⟨(fun n z => by cases z), fun _ _ => noStr_non⟩))⟩
    · refine fun G R b k => ⟨by show 1 ≤ sizeLine; decide, fun t nt => ⟨_, rfl, 1, rfl, r, _, rfl, same_tup (b.trans (same_new nt)) w1, fun z => absurd z.1 (by show ¬ HT.sIx 2 0 (some 1) = 0; decide), fun u nu => ?_⟩⟩
      have sa := (same_new (o := .tup [V.int 1]) nt).trans (same_new (o := .tup (cutV [V.int 0, .ref q0] (some 1) none)) nu)
      refine ⟨t, u, [V.int 1], [V.ref q0], rfl, rfl, sqT_of (same_new nu _ _ upd_same), sqT_of upd_same, List.cons_ne_nil _ _, (by show 2 ≤ sizeLine; decide), fun z => absurd z (List.cons_ne_nil _ _), fun _ v nv => ⟨by show 2 ≤ sizeLine; decide, fun y ny => ?_⟩⟩
      have sb := (sa.trans (same_new (o := .tup ([V.int 1] ++ [V.ref q0])) nv)).trans (same_new (o := .tup [V.str "row", .ref v]) ny)
      have hv := same_new (o := .tup [V.str "row", .ref v]) ny _ _ (upd_same (H := upd (upd G t (.tup [V.int 1])) u (.tup (cutV [V.int 0, .ref q0] (some 1) none))) (a := v) (o := .tup ([V.int 1] ++ [V.ref q0])))
      refine k _ _ sb (.rowN (sqT_of upd_same) fun G' g => ?_)
      have hv' : SqT K G' v [.int 1, .ref q0] := sqT_of (g _ _ hv)
      obtain ⟨bb, hbb⟩ := late_row0 (cs := cs) (chs := chs) hv' (.inl (.inr ⟨ob, (b.trans (sb.trans g)) _ _ w2⟩)) (w4.keep (b.trans (sb.trans g))) hv0
      exact ⟨bb, hbb, .inr ⟨v, 1, _, rfl, hv', by decide⟩⟩
  refine ⟨qo, qp, _, _, rfl, rfl, s10 _ _ hqo, hqp, by omega, fun l nl => ⟨l, rfl, ⟨_, sqL_of upd_same⟩, ?_⟩⟩
  have s11 := s10.trans (same_new (o := .lst (xs ++ ys)) nl)
  have hl : upd H10 l (.lst (xs ++ ys)) l = some (.lst (xs ++ ys)) := upd_same
  have hall : ∀ x ∈ xs ++ ys, UnV K (upd H10 l (.lst (xs ++ ys))) cs chs dhs x false := fun x hx => by
    rcases List.mem_append.mp hx with hx | hx
    · exact (hxo x hx).keep s11
    · exact (hyo x hx).keep (same_new nl)
  have s811 := s9.trans s11
  generalize upd H10 l (.lst (xs ++ ys)) = H11 at hl hall s811 ⊢
  refine for_list (xs := xs ++ ys) (fun i σ H' => Same H11 H' ∧ ∃ y10 : Option V, σ = [some (.ref a), some (.int kI), some (.ref p), some (.ref h), some (.ref m), some (.ref h1), some (.ref h2), y7, some (.ref r), some (.ref qo), y10]) ⟨Same.refl _, _, rfl⟩ (fun i σ H' _ q => sqL_of (q.1 _ _ hl)) ?_ ?_
  · rintro i x σ H12 hxi ⟨s12, y10, rfl⟩
    have ux := (hall x (List.mem_of_getElem? hxi)).keep s12
    have s812 := s811.trans s12
    refine ⟨_, rfl, _, rfl, _, rfl, h1, h2, cs, chs, dhs, x, false, rfl, hH1.keep s812, hH2.keep s812, o, o2, ux, fun H13 s13 => ⟨_, _, rfl, rfl, _, rfl, iteNS rfl (nxt ⟨s12.trans s13, _, rfl⟩)⟩⟩
  rintro σ H12 ⟨s12, y10, rfl⟩
  exact nxt ⟨sB.trans (s811.trans s12), _, _, _, _, _, _, _, _, _, _, rfl⟩
end
theorem factsR {w : World} {K : PySem.W.Frag} {h : Heap} {mg : Str → Option Value} {f : Addr} (X : K.In h) (G : h.Ns mainGlobals mg) (hfa : mg ("law" : Str) = some (.ref f)) (c : He.SaysD fal fnl K ∧ exl K = true) :
    LawOk PySem.Challenge.rw_editionrows_k63_whole_tuples_that_show_u w mg CX0 14 63 "_law_script" f K := by
  have T : Tx K mg := ⟨c.1, c.2, h, X, G⟩
  obtain ⟨fd, F⟩ := fd_law T
  have e := hfa.symm.trans (mg_law T)
  cases e
  have b := FunD.bindsA (ps := ["_law_script"]) F fun _ _ _ _ _ _ us hl => match us, hl with | [_], _ => rfl
  exact ⟨fd, sp_law K, fun s v => b s [v] rfl, fun H a ns hl hb _ hS => ⟨a, ns, rfl, hS, hl, hb, fun _ => rfl⟩, fun base _ _ => ok_law T F⟩
end ER
open PySem PySem.W PySem.Calls PyProof.Rows
set_option maxRecDepth 100000 in
set_option maxHeartbeats 8000000 in
theorem PySem.Challenge.cw_editionrows_k63_whole_tuples_that_show_u_holds : PySem.Challenge.rw_editionrows_k63_whole_tuples_that_show_u.Holds := by
  w_on; o_law
  refine HandSHeadRun.head_any (r := OpenLaw.row PySem.Challenge.rw_editionrows_k63_whole_tuples_that_show_u) (q := view (OpenLaw.row PySem.Challenge.rw_editionrows_k63_whole_tuples_that_show_u).prog [94]) (H := ER.hkR) (ob := ER.obR) (M := 9000) (loose := ER.looseR) (d := HandSHeadRun.topDef (OpenLaw.row PySem.Challenge.rw_editionrows_k63_whole_tuples_that_show_u).prog 94) (kwd := []) ER.obR_eq
    (by kernel_rfl) (fun s => by kernel_rfl) ER.runR (by kernel_rfl) (by kernel_rfl) (by kernel_rfl) (by rfl) (by first | assumption | decide +kernel) (by decide +kernel) ⟨rfl, rfl, rfl, rfl, rfl, by decide +kernel⟩ ?hw ?hc
  case hw => w_witness2
  case hc =>
    refine Evl2.walk_bits (l := PySem.Challenge.rw_editionrows_k63_whole_tuples_that_show_u) (n := 63) (k := 14) (x := "_law_script") (CX := L2.CX0) rfl (by decide) (by kernel_rfl) ⟨rfl, by decide, by decide⟩ ?F (fun _ _ _ _ z => z)
    intro w mg fa h Y G hmg0
    obtain ⟨K, KX, c⟩ := Y
    have hmg : mg ("law" : PySem.Str) = some (.ref fa) := by
      have e : (HandSHeadRun.topDef (OpenLaw.row PySem.Challenge.rw_editionrows_k63_whole_tuples_that_show_u).prog 94).name = ("law" : PySem.Str) := by kernel_rfl
      rw [← e]
      exact hmg0
    exact ⟨K, KX, ER.factsR (w := w) KX G hmg c⟩

