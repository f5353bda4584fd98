/- Spots, rules, eras, zones, links, sources: as data, and as cells. -/
import Derived.Test.YtkkdclibbdeejaaDoorXGa
set_option maxRecDepth 100000
set_option maxHeartbeats 64000000
namespace Go.Proofs.YtkkdclibbdeejaaDoor
open Go.RowKit
structure Sp where
  mo : Int
  ki : Int
  wd : Int
  da : Int
  ti : Int
  re : Int
  deriving DecidableEq
def Sp.zero : Sp := ⟨0, 0, 0, 0, 0, 0⟩
def Sp.val (x : Sp) : Value := .agg #[.int .i64 x.mo, .int .i64 x.ki, .int .i64 x.wd, .int .i64 x.da, .int .i64 x.ti, .int .i64 x.re]
def Sp.in64 (x : Sp) : Prop := In64 x.mo ∧ In64 x.ki ∧ In64 x.wd ∧ In64 x.da ∧ In64 x.ti ∧ In64 x.re
structure Rl where
  name : ByteArray
  fr : Int
  last : Int
  sp : Sp
  save : Int
  letter : ByteArray
structure Er where
  off : Int
  kind : Int
  save : Int
  rules : ByteArray
  fmt : ByteArray
  til : Bool
  year : Int
  sp : Sp
structure Zn where
  name : ByteArray
  eras : List Er
structure Lk where
  target : ByteArray
  name : ByteArray
structure Sr where
  rules : List Rl
  zones : List Zn
  links : List Lk
def Rl.vals (x : Rl) : List Value := [.string x.name, .int .i64 x.fr, .int .i64 x.last, .int .i64 x.sp.mo, .int .i64 x.sp.ki, .int .i64 x.sp.wd, .int .i64 x.sp.da, .int .i64 x.sp.ti, .int .i64 x.sp.re, .int .i64 x.save, .string x.letter]
def Rl.val (x : Rl) : Value := .agg x.vals.toArray
def Er.vals (x : Er) : List Value := [.int .i64 x.off, .int .i64 x.kind, .int .i64 x.save, .string x.rules, .string x.fmt, .bool x.til, .int .i64 x.year, .int .i64 x.sp.mo, .int .i64 x.sp.ki, .int .i64 x.sp.wd, .int .i64 x.sp.da, .int .i64 x.sp.ti, .int .i64 x.sp.re]
def Er.val (x : Er) : Value := .agg x.vals.toArray
def Lk.vals (x : Lk) : List Value := [.string x.target, .string x.name]
def Zn.vals (z : Zn) (v : Value) : List Value := [.string z.name, v]
end Go.Proofs.YtkkdclibbdeejaaDoor
